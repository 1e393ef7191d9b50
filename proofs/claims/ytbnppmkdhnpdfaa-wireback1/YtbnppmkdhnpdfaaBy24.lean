/-
  The law WireBack, walked.
-/
import Derived.Test.YtbnppmkdhnpdfaaBy23
import Derived.Test.YtbnppmkdhnpdfaaBy13
import Derived.Deep.CutBlock
import Derived.Deep.DeepCutAuto
namespace Go.Proofs.Ytbnppmkdhnpdfaa
open Go.RowKit
set_option linter.unusedVariables false
set_option maxRecDepth 100000 in
set_option maxHeartbeats 12800000 in
theorem wback_walk (fr tz o l n tn : Int) (a : Option Addr) (len cap : Nat) (P : Nat → Pm) (z : Int) (am : Option Addr) (lm cm : Nat) (M : List UInt8) (w : World) (hp : PartsIn w a len cap P) (hok : ∀ i, i < len → (P i).Ok w) (hM : ArgB w am lm cm M) (hlm : lm ≤ 140737488351232) :
    Calls Try.prog 5 #[.agg #[.int .i64 fr, .int .i64 tz, .int .i64 o, .int .i64 l, .int .i64 n, .int .i64 tn, .slice a len cap], .int .i64 z, .slice am lm cm] w fun e w' => e = .returned (.bool true) ∧ Below w.heap.size w w' := by
  have HU := aside (show ∀ i, i < len → (0 ≤ (P i).s0 ∧ (P i).s0 < 18446744073709551616) ∧ 0 ≤ (P i).s1 ∧ (P i).s1 < 18446744073709551616 from fun i hi => (hok i hi).2.2.2)
  have HU0 := aside (show ∀ i, i < len → 0 ≤ (P i).s0 ∧ 0 ≤ (P i).s1 from fun i hi => ⟨(hok i hi).2.2.2.1.1, (hok i hi).2.2.2.2.1⟩)
  have bn := bnew w (.cells #[.int .i64 fr, .int .i64 tz, .int .i64 o, .int .i64 l, .int .i64 n, .int .i64 tn, .slice a len cap] 26)
  have K3 := aside (heap_alloc_new w (.cells #[.int .i64 fr, .int .i64 tz, .int .i64 o, .int .i64 l, .int .i64 n, .int .i64 tn, .slice a len cap] 26))
  have HP := aside (hp.keep bn)
  have HM := aside (hM.later bn)
  have BB := aside bn
  clear hp hok hM bn
  go_enter Try.func5, Try.ntmps5
  go_upto_region 1 with fail
  obtain ⟨i3, hi3⟩ : ∃ i3, w.heap.size = i3 := ⟨_, rfl⟩
  rw [hi3] at K3 ⊢
  clear hi3
  generalize w.alloc (.cells #[.int .i64 fr, .int .i64 tz, .int .i64 o, .int .i64 l, .int .i64 n, .int .i64 tn, .slice a len cap] 26) = X0 at K3 HP HM BB ⊢
  have f0 : X0.cell? ⟨i3, 0, none⟩ = some (.int .i64 fr) := by rw [cell_of_row _ _ 0 _ _ _ K3.out]; rfl
  have f1 : X0.cell? ⟨i3, 1, none⟩ = some (.int .i64 tz) := by rw [cell_of_row _ _ 1 _ _ _ K3.out]; rfl
  have f2 : X0.cell? ⟨i3, 2, none⟩ = some (.int .i64 o) := by rw [cell_of_row _ _ 2 _ _ _ K3.out]; rfl
  have f3 : X0.cell? ⟨i3, 3, none⟩ = some (.int .i64 l) := by rw [cell_of_row _ _ 3 _ _ _ K3.out]; rfl
  have f4 : X0.cell? ⟨i3, 4, none⟩ = some (.int .i64 n) := by rw [cell_of_row _ _ 4 _ _ _ K3.out]; rfl
  have f5 : X0.cell? ⟨i3, 5, none⟩ = some (.int .i64 tn) := by rw [cell_of_row _ _ 5 _ _ _ K3.out]; rfl
  have f6 : X0.cell? ⟨i3, 6, none⟩ = some (.slice a len cap) := by rw [cell_of_row _ _ 6 _ _ _ K3.out]; rfl
  go_wp2_with fail
  refine (heavy_any fr tz o l n tn a len cap P X0 HP.out).mono ?_
  rintro r X1 ⟨q, rfl, hq, b1⟩
  replace HP := aside (HP.out.keep b1)
  replace HM := aside (HM.out.later b1)
  replace BB := aside (bthen BB.out b1)
  replace K3 := aside (blk_on K3.out b1)
  clear b1
  clear f0 f1 f2 f3 f4 f5 f6
  cases q
  rotate_left
  · clear hq
    go_wp2
    go_ret
    exact ⟨rfl, BB.out⟩
  have HWT := aside (hq rfl)
  clear hq
  go_wp2_with fail
  refine (shown_any X1).mono ?_
  rintro r X2 ⟨rfl, b2⟩
  replace HP := aside (HP.out.keep b2)
  replace HM := aside (HM.out.later b2)
  replace BB := aside (bthen BB.out b2)
  replace K3 := aside (blk_on K3.out b2)
  clear b2
  have f0 : X2.cell? ⟨i3, 0, none⟩ = some (.int .i64 fr) := by rw [cell_of_row _ _ 0 _ _ _ K3.out]; rfl
  have f1 : X2.cell? ⟨i3, 1, none⟩ = some (.int .i64 tz) := by rw [cell_of_row _ _ 1 _ _ _ K3.out]; rfl
  have f2 : X2.cell? ⟨i3, 2, none⟩ = some (.int .i64 o) := by rw [cell_of_row _ _ 2 _ _ _ K3.out]; rfl
  have f3 : X2.cell? ⟨i3, 3, none⟩ = some (.int .i64 l) := by rw [cell_of_row _ _ 3 _ _ _ K3.out]; rfl
  have f4 : X2.cell? ⟨i3, 4, none⟩ = some (.int .i64 n) := by rw [cell_of_row _ _ 4 _ _ _ K3.out]; rfl
  have f5 : X2.cell? ⟨i3, 5, none⟩ = some (.int .i64 tn) := by rw [cell_of_row _ _ 5 _ _ _ K3.out]; rfl
  have f6 : X2.cell? ⟨i3, 6, none⟩ = some (.slice a len cap) := by rw [cell_of_row _ _ 6 _ _ _ K3.out]; rfl
  obtain ⟨q, hq⟩ : ∃ q, fChk fr tz o l n tn P len = q := ⟨_, rfl⟩
  have HQ := aside hq
  have hT : totE P len ≤ 4611686018427387904 := by have := HWT.out; omega
  go_wp2_with fail
  by_cases hq0 : q = 0
  rotate_left
  · refine (enc_no fr tz o l n tn a len cap P X2 HP.out hT hq hq0).mono ?_
    rintro r X3 ⟨rfl, b3⟩
    replace HP := aside (HP.out.keep b3)
    replace HM := aside (HM.out.later b3)
    replace BB := aside (bthen BB.out b3)
    replace K3 := aside (blk_on K3.out b3)
    clear b3 hq
    clear f0 f1 f2 f3 f4 f5 f6
    have f0 : X3.cell? ⟨i3, 0, none⟩ = some (.int .i64 fr) := by rw [cell_of_row _ _ 0 _ _ _ K3.out]; rfl
    have f1 : X3.cell? ⟨i3, 1, none⟩ = some (.int .i64 tz) := by rw [cell_of_row _ _ 1 _ _ _ K3.out]; rfl
    have f2 : X3.cell? ⟨i3, 2, none⟩ = some (.int .i64 o) := by rw [cell_of_row _ _ 2 _ _ _ K3.out]; rfl
    have f3 : X3.cell? ⟨i3, 3, none⟩ = some (.int .i64 l) := by rw [cell_of_row _ _ 3 _ _ _ K3.out]; rfl
    have f4 : X3.cell? ⟨i3, 4, none⟩ = some (.int .i64 n) := by rw [cell_of_row _ _ 4 _ _ _ K3.out]; rfl
    have f5 : X3.cell? ⟨i3, 5, none⟩ = some (.int .i64 tn) := by rw [cell_of_row _ _ 5 _ _ _ K3.out]; rfl
    have f6 : X3.cell? ⟨i3, 6, none⟩ = some (.slice a len cap) := by rw [cell_of_row _ _ 6 _ _ _ K3.out]; rfl
    go_wp2_with fail
    refine (chkR_any fr tz o l n tn a len cap P X3 HP.out).mono ?_
    rintro r X4 ⟨rfl, b4⟩
    rw [HQ.out]
    replace HP := aside (HP.out.keep b4)
    replace HM := aside (HM.out.later b4)
    replace BB := aside (bthen BB.out b4)
    replace K3 := aside (blk_on K3.out b4)
    clear b4
    clear f0 f1 f2 f3 f4 f5 f6
    have hq1 : (q != 0) = true := by simpa using hq0
    have hq2 : (q == 0) = false := by simpa using hq0
    go_wp2
    go_ret
    exact ⟨rfl, BB.out⟩
  subst hq0
  have HOK := aside (frame_ok hq HU.out)
  have HLN := aside (frameB_len HOK.out (goods (fchk_zero hq).2.2.2).2.1)
  have HCH := aside (show FV.chk ⟨fr, tz, o, l, n, tn, psOf P len⟩ = 0 from by rw [chk_of HU0.out]; exact hq)
  have HFT := aside (show ¬ fr = tz from by
    have z1 := (fchk_zero hq).1
    unfold endsB at z1
    simp only [Bool.and_eq_true, Bool.not_eq_true', beq_eq_false_iff_ne] at z1
    exact z1.1.2)
  refine (enc_ok fr tz o l n tn a len cap P X2 HP.out hT hq HOK.out HU0.out).mono ?_
  rintro r X3 ⟨v5, rfl, own5, b3⟩
  replace HP := aside (HP.out.keep b3)
  replace HM := aside (HM.out.later b3)
  replace BB := aside (bthen BB.out b3)
  replace K3 := aside (blk_on K3.out b3)
  clear b3 hq
  clear f0 f1 f2 f3 f4 f5 f6
  obtain ⟨L, hL⟩ : ∃ L, frameB ⟨fr, tz, o, l, n, tn, psOf P len⟩ = L := ⟨_, rfl⟩
  have HD1 := aside (show decF L = some ⟨fr, tz, o, l, n, tn, psOf P len⟩ from by rw [← hL]; exact decF_put HOK.out HCH.out HLN.out)
  have HD2 := aside (show ∀ k, k < L.length → decF (L.take k) = none from fun k hk => by rw [← hL] at hk ⊢; exact decF_cut HOK.out hk)
  have HD3 := aside (show ∀ x, x ≠ [] → decF (L ++ x) = none from fun x hx => by rw [← hL]; exact decF_more HOK.out hx)
  have hpos : 0 < L.length := by rw [← hL]; exact frameB_pos _
  rw [hL] at own5
  have hL6 : L.length ≤ 65536 := by rw [← hL]; exact HLN.out
  clear hL HCH HLN hT
  obtain ⟨nl, hnl⟩ : ∃ nl, L.length = nl := ⟨_, rfl⟩
  obtain ⟨g, c, rfl⟩ : ∃ g c, v5 = .slice (some ⟨g, 0, none⟩) nl c := by
    rcases own5.2 with ⟨_, h2⟩ | ⟨g, c, cur, h1, _⟩
    · omega
    · exact ⟨g, c, by rw [← hnl]; exact h1⟩
  have HV := aside (argB_own own5)
  have hcn : nl ≤ c := HV.out.2.1
  rw [hnl] at hpos hL6
  have HNL := aside hnl
  clear own5 hnl
  have f0 : X3.cell? ⟨i3, 0, none⟩ = some (.int .i64 fr) := by rw [cell_of_row _ _ 0 _ _ _ K3.out]; rfl
  have f1 : X3.cell? ⟨i3, 1, none⟩ = some (.int .i64 tz) := by rw [cell_of_row _ _ 1 _ _ _ K3.out]; rfl
  have f2 : X3.cell? ⟨i3, 2, none⟩ = some (.int .i64 o) := by rw [cell_of_row _ _ 2 _ _ _ K3.out]; rfl
  have f3 : X3.cell? ⟨i3, 3, none⟩ = some (.int .i64 l) := by rw [cell_of_row _ _ 3 _ _ _ K3.out]; rfl
  have f4 : X3.cell? ⟨i3, 4, none⟩ = some (.int .i64 n) := by rw [cell_of_row _ _ 4 _ _ _ K3.out]; rfl
  have f5 : X3.cell? ⟨i3, 5, none⟩ = some (.int .i64 tn) := by rw [cell_of_row _ _ 5 _ _ _ K3.out]; rfl
  have f6 : X3.cell? ⟨i3, 6, none⟩ = some (.slice a len cap) := by rw [cell_of_row _ _ 6 _ _ _ K3.out]; rfl
  go_wp2_with fail
  refine (chkR_any fr tz o l n tn a len cap P X3 HP.out).mono ?_
  rintro r X4 ⟨rfl, b4⟩
  rw [HQ.out]
  replace HP := aside (HP.out.keep b4)
  replace HM := aside (HM.out.later b4)
  replace BB := aside (bthen BB.out b4)
  replace K3 := aside (blk_on K3.out b4)
  replace HV := aside (HV.out.later b4)
  clear b4
  clear f0 f1 f2 f3 f4 f5 f6
  go_wp2_with fail
  refine (dec_any (some ⟨g, 0, none⟩) nl c L X4 (fun w' b => (HV.out.later b).reads) HV.out.1.symm).mono ?_
  rintro r X5 ⟨b5, ⟨hd, -⟩ | ⟨F, pa, pn, pc, hd, rfl, hpr⟩⟩
  · rw [HD1.out] at hd; cases hd
  rw [HD1.out] at hd
  injection hd with hd
  subst hd
  obtain ⟨Q, hQ⟩ := hpr
  dsimp only at hQ ⊢
  have HR := aside hQ
  have HQS := aside (rd_back hQ HU0.out)
  clear hQ
  replace HP := aside (HP.out.keep b5)
  replace HM := aside (HM.out.later b5)
  replace BB := aside (bthen BB.out b5)
  replace K3 := aside (blk_on K3.out b5)
  replace HV := aside (HV.out.later b5)
  clear b5
  have bn := bnew X5 (.cells #[.int .i64 fr, .int .i64 tz, .int .i64 o, .int .i64 l, .int .i64 n, .int .i64 tn, .slice pa pn pc] 26)
  have K9 := aside (heap_alloc_new X5 (.cells #[.int .i64 fr, .int .i64 tz, .int .i64 o, .int .i64 l, .int .i64 n, .int .i64 tn, .slice pa pn pc] 26))
  replace HP := aside (HP.out.keep bn)
  replace HM := aside (HM.out.later bn)
  replace BB := aside (bthen BB.out bn)
  replace K3 := aside (blk_on K3.out bn)
  replace HV := aside (HV.out.later bn)
  replace HR := aside (HR.out.keep (Keeps.of_below bn (fun _ => False)) (fun k h => h.elim))
  clear bn
  go_upto_region 11 with fail
  obtain ⟨i9, hi9⟩ : ∃ i9, X5.heap.size = i9 := ⟨_, rfl⟩
  rw [hi9] at K9 ⊢
  clear hi9
  generalize X5.alloc (.cells #[.int .i64 fr, .int .i64 tz, .int .i64 o, .int .i64 l, .int .i64 n, .int .i64 tn, .slice pa pn pc] 26) = X6 at K9 HP HM BB K3 HV HR ⊢
  go_wp2_with fail
  refine (among12 z nl X6 hpos (by omega)).mono ?_
  rintro r X6b ⟨k, rfl, hk, rfl⟩
  have hk0 : (0 : Int) ≤ (k : Int) := by omega
  have hkc : ¬ c < k := by omega
  have hkc2 : ¬ (c : Int) < (k : Int) := by omega
  have hkc3 : k ≤ c := by omega
  go_wp2_with fail
  refine (dec_any (some ⟨g, 0, none⟩) k c (L.take k) X6b (fun w' b => ((HV.out.pre (by omega)).later b).reads) (HV.out.pre (by omega)).1.symm).mono ?_
  rintro r X7 ⟨b7, ⟨-, rfl⟩ | ⟨F, qa, qn, qc, hd, -⟩⟩
  rotate_left
  · rw [HD2.out k (by rw [HNL.out]; exact hk)] at hd; cases hd
  replace HP := aside (HP.out.keep b7)
  replace HM := aside (HM.out.later b7)
  replace BB := aside (bthen BB.out b7)
  replace K3 := aside (blk_on K3.out b7)
  replace HV := aside (HV.out.later b7)
  replace HR := aside (HR.out.keep (Keeps.of_below b7 (fun _ => False)) (fun k h => h.elim))
  replace K9 := aside (blk_on K9.out b7)
  clear b7 hk hk0 hkc hkc2 hkc3
  have bn := bnew X7 (.cells #[.int .i64 0, .int .i64 0, .int .i64 0, .int .i64 0, .int .i64 0, .int .i64 0, .slice none 0 0] 26)
  have K11 := aside (heap_alloc_new X7 (.cells #[.int .i64 0, .int .i64 0, .int .i64 0, .int .i64 0, .int .i64 0, .int .i64 0, .slice none 0 0] 26))
  replace HP := aside (HP.out.keep bn)
  replace HM := aside (HM.out.later bn)
  replace BB := aside (bthen BB.out bn)
  replace K3 := aside (blk_on K3.out bn)
  replace HV := aside (HV.out.later bn)
  replace HR := aside (HR.out.keep (Keeps.of_below bn (fun _ => False)) (fun k h => h.elim))
  replace K9 := aside (blk_on K9.out bn)
  clear bn
  go_upto_region 12 with fail
  obtain ⟨i11, hi11⟩ : ∃ i11, X7.heap.size = i11 := ⟨_, rfl⟩
  rw [hi11] at K11 ⊢
  clear hi11
  generalize X7.alloc (.cells #[.int .i64 0, .int .i64 0, .int .i64 0, .int .i64 0, .int .i64 0, .int .i64 0, .slice none 0 0] 26) = X8 at K11 HP HM BB K3 HV HR K9 ⊢
  go_wp2_with (at_builtin; refine wpList_plain rfl fun K hK => op_append_arg _ _ rfl X8.heap.size (.slice none 0 0) [] (by rfl) ⟨rfl, .inl ⟨rfl, rfl⟩⟩ (some ⟨g, 0, none⟩) nl c L (by rfl) HV.out (by simp only [List.length_nil]; omega) (Nat.le_refl _) ?_; intro v6 w6 own6 gr6; refine hK _ _ ?_; refine Hid.out ?_)
  refine aside ?_
  rw [List.nil_append] at own6
  have k6 : Below X8.heap.size X8 w6 := ((Keeps.refl (fun _ => False) X8).grown gr6 (fun k hk _ => by cases hk)).below (Nat.le_refl _) (fun k _ h => h)
  obtain ⟨g6, c6, rfl⟩ : ∃ g c, v6 = .slice (some ⟨g, 0, none⟩) nl c := by
    rcases own6.2 with ⟨_, h2⟩ | ⟨g, c, cur, h1, _⟩
    · have := HNL.out; omega
    · exact ⟨g, c, by rw [← HNL.out]; exact h1⟩
  have O6 := aside own6
  have BX6 := aside k6
  have HM6 := aside (HM.out.later k6)
  clear own6 gr6 k6
  go_wp2_with (at_builtin; refine wpList_plain rfl fun K hK => op_append_arg _ _ rfl X8.heap.size (.slice (some ⟨g6, 0, none⟩) nl c6) L (by rfl) O6.out am lm cm M (by rfl) HM6.out (by rw [HNL.out]; omega) BX6.out.size ?_; intro v7 w7 own7 gr7; refine hK _ _ ?_; refine Hid.out ?_)
  refine aside ?_
  have k7 : Below X8.heap.size w6 w7 := ((Keeps.refl (fun x => Value.ownBlock (.slice (some ⟨g6, 0, none⟩) nl c6) = some x) w6).grown gr7 (fun k hk _ => hk)).below BX6.out.size (fun k hk e => by have := (O6.out.lt k e).1; omega)
  have hlen7 : (L ++ M).length = nl + lm := by rw [List.length_append, HNL.out, HM.out.1]
  obtain ⟨g7, c7, rfl⟩ : ∃ g c, v7 = .slice (some ⟨g, 0, none⟩) (nl + lm) c := by
    rcases own7.2 with ⟨_, h2⟩ | ⟨g, c, cur, h1, _⟩
    · omega
    · exact ⟨g, c, by rw [← hlen7]; exact h1⟩
  have HV7 := aside (argB_own own7)
  have b8 := BX6.out.trans k7
  replace HP := aside (HP.out.keep b8)
  replace HM := aside (HM.out.later b8)
  replace BB := aside (bthen BB.out b8)
  replace K3 := aside (blk_on K3.out b8)
  replace HV := aside (HV.out.later b8)
  replace HR := aside (HR.out.keep (Keeps.of_below b8 (fun _ => False)) (fun k h => h.elim))
  replace K9 := aside (blk_on K9.out b8)
  replace K11 := aside (blk_on K11.out b8)
  clear own7 gr7 k7 hlen7 O6 b8 BX6 HM6
  go_wp2_with fail
  refine (dec_any (some ⟨g7, 0, none⟩) (nl + lm) c7 (L ++ M) w7 (fun w' b => (HV7.out.later b).reads) HV7.out.1.symm).mono ?_
  by_cases hM0 : M = []
  · as_aux_lemma =>
      rintro r X9 ⟨b9, ⟨hd, -⟩ | ⟨F, qa, qn, qc, hd, rfl, hpr⟩⟩
      · rw [hM0, List.append_nil, HD1.out] at hd; cases hd
      rw [hM0, List.append_nil, HD1.out] at hd
      injection hd with hd
      subst hd
      obtain ⟨Q3, hQ3⟩ := hpr
      dsimp only at hQ3 ⊢
      have HR3 := aside hQ3
      have HQS3 := aside (rd_back hQ3 HU0.out)
      have hl0 : lm = 0 := by rw [← HM.out.1, hM0]; rfl
      clear hQ3
      replace HP := aside (HP.out.keep b9)
      replace HM := aside (HM.out.later b9)
      replace BB := aside (bthen BB.out b9)
      replace K3 := aside (blk_on K3.out b9)
      replace HV := aside (HV.out.later b9)
      replace HR := aside (HR.out.keep (Keeps.of_below b9 (fun _ => False)) (fun k h => h.elim))
      replace K9 := aside (blk_on K9.out b9)
      replace K11 := aside (blk_on K11.out b9)
      clear b9
      have bn := bnew X9 (.cells #[.int .i64 fr, .int .i64 tz, .int .i64 o, .int .i64 l, .int .i64 n, .int .i64 tn, .slice qa qn qc] 26)
      have K13 := aside (heap_alloc_new X9 (.cells #[.int .i64 fr, .int .i64 tz, .int .i64 o, .int .i64 l, .int .i64 n, .int .i64 tn, .slice qa qn qc] 26))
      replace HP := aside (HP.out.keep bn)
      replace HM := aside (HM.out.later bn)
      replace BB := aside (bthen BB.out bn)
      replace K3 := aside (blk_on K3.out bn)
      replace HV := aside (HV.out.later bn)
      replace HR := aside (HR.out.keep (Keeps.of_below bn (fun _ => False)) (fun k h => h.elim))
      replace K9 := aside (blk_on K9.out bn)
      replace K11 := aside (blk_on K11.out bn)
      replace HR3 := aside (HR3.out.keep (Keeps.of_below bn (fun _ => False)) (fun k h => h.elim))
      clear bn hM0
      go_upto_region 13 with fail
      obtain ⟨i13, hi13⟩ : ∃ i13, X9.heap.size = i13 := ⟨_, rfl⟩
      rw [hi13] at K13 ⊢
      clear hi13
      generalize X9.alloc (.cells #[.int .i64 fr, .int .i64 tz, .int .i64 o, .int .i64 l, .int .i64 n, .int .i64 tn, .slice qa qn qc] 26) = Y0 at K13 HP HM BB K3 HV HR K9 K11 HR3 ⊢
      subst hl0
      have f0 : Y0.cell? ⟨i3, 0, none⟩ = some (.int .i64 fr) := by rw [cell_of_row _ _ 0 _ _ _ K3.out]; rfl
      have f1 : Y0.cell? ⟨i3, 1, none⟩ = some (.int .i64 tz) := by rw [cell_of_row _ _ 1 _ _ _ K3.out]; rfl
      have f2 : Y0.cell? ⟨i3, 2, none⟩ = some (.int .i64 o) := by rw [cell_of_row _ _ 2 _ _ _ K3.out]; rfl
      have f3 : Y0.cell? ⟨i3, 3, none⟩ = some (.int .i64 l) := by rw [cell_of_row _ _ 3 _ _ _ K3.out]; rfl
      have f4 : Y0.cell? ⟨i3, 4, none⟩ = some (.int .i64 n) := by rw [cell_of_row _ _ 4 _ _ _ K3.out]; rfl
      have f5 : Y0.cell? ⟨i3, 5, none⟩ = some (.int .i64 tn) := by rw [cell_of_row _ _ 5 _ _ _ K3.out]; rfl
      have f6 : Y0.cell? ⟨i3, 6, none⟩ = some (.slice a len cap) := by rw [cell_of_row _ _ 6 _ _ _ K3.out]; rfl
      have g0 : Y0.cell? ⟨i9, 0, none⟩ = some (.int .i64 fr) := by rw [cell_of_row _ _ 0 _ _ _ K9.out]; rfl
      have g1 : Y0.cell? ⟨i9, 1, none⟩ = some (.int .i64 tz) := by rw [cell_of_row _ _ 1 _ _ _ K9.out]; rfl
      have g2 : Y0.cell? ⟨i9, 2, none⟩ = some (.int .i64 o) := by rw [cell_of_row _ _ 2 _ _ _ K9.out]; rfl
      have g3 : Y0.cell? ⟨i9, 3, none⟩ = some (.int .i64 l) := by rw [cell_of_row _ _ 3 _ _ _ K9.out]; rfl
      have g4 : Y0.cell? ⟨i9, 4, none⟩ = some (.int .i64 n) := by rw [cell_of_row _ _ 4 _ _ _ K9.out]; rfl
      have g5 : Y0.cell? ⟨i9, 5, none⟩ = some (.int .i64 tn) := by rw [cell_of_row _ _ 5 _ _ _ K9.out]; rfl
      have g6 : Y0.cell? ⟨i9, 6, none⟩ = some (.slice pa pn pc) := by rw [cell_of_row _ _ 6 _ _ _ K9.out]; rfl
      go_wp2_with fail
      refine (same_any fr tz o l n tn fr tz o l n tn pa pn pc Q a len cap P Y0 (HR.out.parts (fun v hv => (HOK.out.ps v hv).keys)) HP.out).mono ?_
      rintro r Y1 ⟨⟨-, rfl⟩ | ⟨hno, -⟩, c1⟩
      rotate_left
      · exact absurd ⟨⟨rfl, rfl, rfl, rfl, rfl, rfl⟩, HQS.out⟩ hno
      replace HP := aside (HP.out.keep c1)
      replace HM := aside (HM.out.later c1)
      replace BB := aside (bthen BB.out c1)
      replace K3 := aside (blk_on K3.out c1)
      replace HV := aside (HV.out.later c1)
      replace HR := aside (HR.out.keep (Keeps.of_below c1 (fun _ => False)) (fun k h => h.elim))
      replace K9 := aside (blk_on K9.out c1)
      replace K11 := aside (blk_on K11.out c1)
      replace HR3 := aside (HR3.out.keep (Keeps.of_below c1 (fun _ => False)) (fun k h => h.elim))
      replace K13 := aside (blk_on K13.out c1)
      clear c1 f0 g0 f1 g1 f2 g2 f3 g3 f4 g4 f5 g5 f6 g6
      have z0 : Y1.cell? ⟨i11, 0, none⟩ = some (.int .i64 0) := by rw [cell_of_row _ _ 0 _ _ _ K11.out]; rfl
      have z1 : Y1.cell? ⟨i11, 1, none⟩ = some (.int .i64 0) := by rw [cell_of_row _ _ 1 _ _ _ K11.out]; rfl
      have z2 : Y1.cell? ⟨i11, 2, none⟩ = some (.int .i64 0) := by rw [cell_of_row _ _ 2 _ _ _ K11.out]; rfl
      have z3 : Y1.cell? ⟨i11, 3, none⟩ = some (.int .i64 0) := by rw [cell_of_row _ _ 3 _ _ _ K11.out]; rfl
      have z4 : Y1.cell? ⟨i11, 4, none⟩ = some (.int .i64 0) := by rw [cell_of_row _ _ 4 _ _ _ K11.out]; rfl
      have z5 : Y1.cell? ⟨i11, 5, none⟩ = some (.int .i64 0) := by rw [cell_of_row _ _ 5 _ _ _ K11.out]; rfl
      have z6 : Y1.cell? ⟨i11, 6, none⟩ = some (.slice none 0 0) := by rw [cell_of_row _ _ 6 _ _ _ K11.out]; rfl
      go_wp2_with fail
      refine (same_any 0 0 0 0 0 0 0 0 0 0 0 0 none 0 0 (fun _ => pm0) none 0 0 (fun _ => pm0) Y1 ⟨Nat.le_refl _, by unfold maxLen; omega, .inl rfl⟩ ⟨Nat.le_refl _, by unfold maxLen; omega, .inl rfl⟩).mono ?_
      rintro r Y2 ⟨⟨-, rfl⟩ | ⟨hno, -⟩, c2⟩
      rotate_left
      · exact absurd ⟨⟨rfl, rfl, rfl, rfl, rfl, rfl⟩, rfl, fun i hi => by omega⟩ hno
      replace HP := aside (HP.out.keep c2)
      replace HM := aside (HM.out.later c2)
      replace BB := aside (bthen BB.out c2)
      replace K3 := aside (blk_on K3.out c2)
      replace HV := aside (HV.out.later c2)
      replace HR := aside (HR.out.keep (Keeps.of_below c2 (fun _ => False)) (fun k h => h.elim))
      replace K9 := aside (blk_on K9.out c2)
      replace K11 := aside (blk_on K11.out c2)
      replace HR3 := aside (HR3.out.keep (Keeps.of_below c2 (fun _ => False)) (fun k h => h.elim))
      replace K13 := aside (blk_on K13.out c2)
      clear c2 z0 z1 z2 z3 z4 z5 z6
      have f0 : Y2.cell? ⟨i3, 0, none⟩ = some (.int .i64 fr) := by rw [cell_of_row _ _ 0 _ _ _ K3.out]; rfl
      have f1 : Y2.cell? ⟨i3, 1, none⟩ = some (.int .i64 tz) := by rw [cell_of_row _ _ 1 _ _ _ K3.out]; rfl
      have f2 : Y2.cell? ⟨i3, 2, none⟩ = some (.int .i64 o) := by rw [cell_of_row _ _ 2 _ _ _ K3.out]; rfl
      have f3 : Y2.cell? ⟨i3, 3, none⟩ = some (.int .i64 l) := by rw [cell_of_row _ _ 3 _ _ _ K3.out]; rfl
      have f4 : Y2.cell? ⟨i3, 4, none⟩ = some (.int .i64 n) := by rw [cell_of_row _ _ 4 _ _ _ K3.out]; rfl
      have f5 : Y2.cell? ⟨i3, 5, none⟩ = some (.int .i64 tn) := by rw [cell_of_row _ _ 5 _ _ _ K3.out]; rfl
      have f6 : Y2.cell? ⟨i3, 6, none⟩ = some (.slice a len cap) := by rw [cell_of_row _ _ 6 _ _ _ K3.out]; rfl
      have g0 : Y2.cell? ⟨i13, 0, none⟩ = some (.int .i64 fr) := by rw [cell_of_row _ _ 0 _ _ _ K13.out]; rfl
      have g1 : Y2.cell? ⟨i13, 1, none⟩ = some (.int .i64 tz) := by rw [cell_of_row _ _ 1 _ _ _ K13.out]; rfl
      have g2 : Y2.cell? ⟨i13, 2, none⟩ = some (.int .i64 o) := by rw [cell_of_row _ _ 2 _ _ _ K13.out]; rfl
      have g3 : Y2.cell? ⟨i13, 3, none⟩ = some (.int .i64 l) := by rw [cell_of_row _ _ 3 _ _ _ K13.out]; rfl
      have g4 : Y2.cell? ⟨i13, 4, none⟩ = some (.int .i64 n) := by rw [cell_of_row _ _ 4 _ _ _ K13.out]; rfl
      have g5 : Y2.cell? ⟨i13, 5, none⟩ = some (.int .i64 tn) := by rw [cell_of_row _ _ 5 _ _ _ K13.out]; rfl
      have g6 : Y2.cell? ⟨i13, 6, none⟩ = some (.slice qa qn qc) := by rw [cell_of_row _ _ 6 _ _ _ K13.out]; rfl
      go_wp2_with fail
      refine (same_any fr tz o l n tn fr tz o l n tn qa qn qc Q3 a len cap P Y2 (HR3.out.parts (fun v hv => (HOK.out.ps v hv).keys)) HP.out).mono ?_
      rintro r Y3 ⟨⟨-, rfl⟩ | ⟨hno, -⟩, c3⟩
      rotate_left
      · exact absurd ⟨⟨rfl, rfl, rfl, rfl, rfl, rfl⟩, HQS3.out⟩ hno
      replace BB := aside (bthen BB.out c3)
      clear c3 f0 g0 f1 g1 f2 g2 f3 g3 f4 g4 f5 g5 f6 g6
      go_wp2
      go_ret
      exact ⟨rfl, BB.out⟩
  · as_aux_lemma =>
      rintro r X9 ⟨b9, ⟨-, rfl⟩ | ⟨F, qa, qn, qc, hd, -⟩⟩
      rotate_left
      · rw [HD3.out M hM0] at hd; cases hd
      have hl0 : ¬ lm = 0 := by rw [← HM.out.1]; exact fun h => hM0 (List.length_eq_zero_iff.1 h)
      have hl1 : (lm == 0) = false := by simpa using hl0
      have hl2 : ((lm : Int) == 0) = false := by simp; omega
      replace HP := aside (HP.out.keep b9)
      replace HM := aside (HM.out.later b9)
      replace BB := aside (bthen BB.out b9)
      replace K3 := aside (blk_on K3.out b9)
      replace HV := aside (HV.out.later b9)
      replace HR := aside (HR.out.keep (Keeps.of_below b9 (fun _ => False)) (fun k h => h.elim))
      replace K9 := aside (blk_on K9.out b9)
      replace K11 := aside (blk_on K11.out b9)
      clear b9
      have bn := bnew X9 (.cells #[.int .i64 0, .int .i64 0, .int .i64 0, .int .i64 0, .int .i64 0, .int .i64 0, .slice none 0 0] 26)
      have K13 := aside (heap_alloc_new X9 (.cells #[.int .i64 0, .int .i64 0, .int .i64 0, .int .i64 0, .int .i64 0, .int .i64 0, .slice none 0 0] 26))
      replace HP := aside (HP.out.keep bn)
      replace HM := aside (HM.out.later bn)
      replace BB := aside (bthen BB.out bn)
      replace K3 := aside (blk_on K3.out bn)
      replace HV := aside (HV.out.later bn)
      replace HR := aside (HR.out.keep (Keeps.of_below bn (fun _ => False)) (fun k h => h.elim))
      replace K9 := aside (blk_on K9.out bn)
      replace K11 := aside (blk_on K11.out bn)
      clear bn hM0
      go_upto_region 13 with fail
      obtain ⟨i13, hi13⟩ : ∃ i13, X9.heap.size = i13 := ⟨_, rfl⟩
      rw [hi13] at K13 ⊢
      clear hi13
      generalize X9.alloc (.cells #[.int .i64 0, .int .i64 0, .int .i64 0, .int .i64 0, .int .i64 0, .int .i64 0, .slice none 0 0] 26) = Y0 at K13 HP HM BB K3 HV HR K9 K11 ⊢
      have f0 : Y0.cell? ⟨i3, 0, none⟩ = some (.int .i64 fr) := by rw [cell_of_row _ _ 0 _ _ _ K3.out]; rfl
      have f1 : Y0.cell? ⟨i3, 1, none⟩ = some (.int .i64 tz) := by rw [cell_of_row _ _ 1 _ _ _ K3.out]; rfl
      have f2 : Y0.cell? ⟨i3, 2, none⟩ = some (.int .i64 o) := by rw [cell_of_row _ _ 2 _ _ _ K3.out]; rfl
      have f3 : Y0.cell? ⟨i3, 3, none⟩ = some (.int .i64 l) := by rw [cell_of_row _ _ 3 _ _ _ K3.out]; rfl
      have f4 : Y0.cell? ⟨i3, 4, none⟩ = some (.int .i64 n) := by rw [cell_of_row _ _ 4 _ _ _ K3.out]; rfl
      have f5 : Y0.cell? ⟨i3, 5, none⟩ = some (.int .i64 tn) := by rw [cell_of_row _ _ 5 _ _ _ K3.out]; rfl
      have f6 : Y0.cell? ⟨i3, 6, none⟩ = some (.slice a len cap) := by rw [cell_of_row _ _ 6 _ _ _ K3.out]; rfl
      have g0 : Y0.cell? ⟨i9, 0, none⟩ = some (.int .i64 fr) := by rw [cell_of_row _ _ 0 _ _ _ K9.out]; rfl
      have g1 : Y0.cell? ⟨i9, 1, none⟩ = some (.int .i64 tz) := by rw [cell_of_row _ _ 1 _ _ _ K9.out]; rfl
      have g2 : Y0.cell? ⟨i9, 2, none⟩ = some (.int .i64 o) := by rw [cell_of_row _ _ 2 _ _ _ K9.out]; rfl
      have g3 : Y0.cell? ⟨i9, 3, none⟩ = some (.int .i64 l) := by rw [cell_of_row _ _ 3 _ _ _ K9.out]; rfl
      have g4 : Y0.cell? ⟨i9, 4, none⟩ = some (.int .i64 n) := by rw [cell_of_row _ _ 4 _ _ _ K9.out]; rfl
      have g5 : Y0.cell? ⟨i9, 5, none⟩ = some (.int .i64 tn) := by rw [cell_of_row _ _ 5 _ _ _ K9.out]; rfl
      have g6 : Y0.cell? ⟨i9, 6, none⟩ = some (.slice pa pn pc) := by rw [cell_of_row _ _ 6 _ _ _ K9.out]; rfl
      go_wp2_with fail
      refine (same_any fr tz o l n tn fr tz o l n tn pa pn pc Q a len cap P Y0 (HR.out.parts (fun v hv => (HOK.out.ps v hv).keys)) HP.out).mono ?_
      rintro r Y1 ⟨⟨-, rfl⟩ | ⟨hno, -⟩, c1⟩
      rotate_left
      · exact absurd ⟨⟨rfl, rfl, rfl, rfl, rfl, rfl⟩, HQS.out⟩ hno
      replace HP := aside (HP.out.keep c1)
      replace HM := aside (HM.out.later c1)
      replace BB := aside (bthen BB.out c1)
      replace K3 := aside (blk_on K3.out c1)
      replace HV := aside (HV.out.later c1)
      replace HR := aside (HR.out.keep (Keeps.of_below c1 (fun _ => False)) (fun k h => h.elim))
      replace K9 := aside (blk_on K9.out c1)
      replace K11 := aside (blk_on K11.out c1)
      replace K13 := aside (blk_on K13.out c1)
      clear c1 f0 g0 f1 g1 f2 g2 f3 g3 f4 g4 f5 g5 f6 g6
      have z0 : Y1.cell? ⟨i11, 0, none⟩ = some (.int .i64 0) := by rw [cell_of_row _ _ 0 _ _ _ K11.out]; rfl
      have z1 : Y1.cell? ⟨i11, 1, none⟩ = some (.int .i64 0) := by rw [cell_of_row _ _ 1 _ _ _ K11.out]; rfl
      have z2 : Y1.cell? ⟨i11, 2, none⟩ = some (.int .i64 0) := by rw [cell_of_row _ _ 2 _ _ _ K11.out]; rfl
      have z3 : Y1.cell? ⟨i11, 3, none⟩ = some (.int .i64 0) := by rw [cell_of_row _ _ 3 _ _ _ K11.out]; rfl
      have z4 : Y1.cell? ⟨i11, 4, none⟩ = some (.int .i64 0) := by rw [cell_of_row _ _ 4 _ _ _ K11.out]; rfl
      have z5 : Y1.cell? ⟨i11, 5, none⟩ = some (.int .i64 0) := by rw [cell_of_row _ _ 5 _ _ _ K11.out]; rfl
      have z6 : Y1.cell? ⟨i11, 6, none⟩ = some (.slice none 0 0) := by rw [cell_of_row _ _ 6 _ _ _ K11.out]; rfl
      go_wp2_with fail
      refine (same_any 0 0 0 0 0 0 0 0 0 0 0 0 none 0 0 (fun _ => pm0) none 0 0 (fun _ => pm0) Y1 ⟨Nat.le_refl _, by unfold maxLen; omega, .inl rfl⟩ ⟨Nat.le_refl _, by unfold maxLen; omega, .inl rfl⟩).mono ?_
      rintro r Y2 ⟨⟨-, rfl⟩ | ⟨hno, -⟩, c2⟩
      rotate_left
      · exact absurd ⟨⟨rfl, rfl, rfl, rfl, rfl, rfl⟩, rfl, fun i hi => by omega⟩ hno
      replace HP := aside (HP.out.keep c2)
      replace HM := aside (HM.out.later c2)
      replace BB := aside (bthen BB.out c2)
      replace K3 := aside (blk_on K3.out c2)
      replace HV := aside (HV.out.later c2)
      replace HR := aside (HR.out.keep (Keeps.of_below c2 (fun _ => False)) (fun k h => h.elim))
      replace K9 := aside (blk_on K9.out c2)
      replace K11 := aside (blk_on K11.out c2)
      replace K13 := aside (blk_on K13.out c2)
      clear c2 z0 z1 z2 z3 z4 z5 z6
      have f0 : Y2.cell? ⟨i3, 0, none⟩ = some (.int .i64 fr) := by rw [cell_of_row _ _ 0 _ _ _ K3.out]; rfl
      have f1 : Y2.cell? ⟨i3, 1, none⟩ = some (.int .i64 tz) := by rw [cell_of_row _ _ 1 _ _ _ K3.out]; rfl
      have f2 : Y2.cell? ⟨i3, 2, none⟩ = some (.int .i64 o) := by rw [cell_of_row _ _ 2 _ _ _ K3.out]; rfl
      have f3 : Y2.cell? ⟨i3, 3, none⟩ = some (.int .i64 l) := by rw [cell_of_row _ _ 3 _ _ _ K3.out]; rfl
      have f4 : Y2.cell? ⟨i3, 4, none⟩ = some (.int .i64 n) := by rw [cell_of_row _ _ 4 _ _ _ K3.out]; rfl
      have f5 : Y2.cell? ⟨i3, 5, none⟩ = some (.int .i64 tn) := by rw [cell_of_row _ _ 5 _ _ _ K3.out]; rfl
      have f6 : Y2.cell? ⟨i3, 6, none⟩ = some (.slice a len cap) := by rw [cell_of_row _ _ 6 _ _ _ K3.out]; rfl
      have g0 : Y2.cell? ⟨i13, 0, none⟩ = some (.int .i64 0) := by rw [cell_of_row _ _ 0 _ _ _ K13.out]; rfl
      have g1 : Y2.cell? ⟨i13, 1, none⟩ = some (.int .i64 0) := by rw [cell_of_row _ _ 1 _ _ _ K13.out]; rfl
      have g2 : Y2.cell? ⟨i13, 2, none⟩ = some (.int .i64 0) := by rw [cell_of_row _ _ 2 _ _ _ K13.out]; rfl
      have g3 : Y2.cell? ⟨i13, 3, none⟩ = some (.int .i64 0) := by rw [cell_of_row _ _ 3 _ _ _ K13.out]; rfl
      have g4 : Y2.cell? ⟨i13, 4, none⟩ = some (.int .i64 0) := by rw [cell_of_row _ _ 4 _ _ _ K13.out]; rfl
      have g5 : Y2.cell? ⟨i13, 5, none⟩ = some (.int .i64 0) := by rw [cell_of_row _ _ 5 _ _ _ K13.out]; rfl
      have g6 : Y2.cell? ⟨i13, 6, none⟩ = some (.slice none 0 0) := by rw [cell_of_row _ _ 6 _ _ _ K13.out]; rfl
      go_wp2_with fail
      refine (same_any 0 0 0 0 0 0 fr tz o l n tn none 0 0 (fun _ => pm0) a len cap P Y2 ⟨Nat.le_refl _, by unfold maxLen; omega, .inl rfl⟩ HP.out).mono ?_
      rintro r Y3 ⟨⟨hno, -⟩ | ⟨-, rfl⟩, c3⟩
      · exact absurd (hno.1.1.symm.trans hno.1.2.1) HFT.out
      replace BB := aside (bthen BB.out c3)
      clear c3 f0 g0 f1 g1 f2 g2 f3 g3 f4 g4 f5 g5 f6 g6
      go_wp2
      go_ret
      exact ⟨rfl, BB.out⟩
end Go.Proofs.Ytbnppmkdhnpdfaa

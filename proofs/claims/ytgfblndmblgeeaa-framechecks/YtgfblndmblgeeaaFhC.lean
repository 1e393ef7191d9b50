/-
  A lent frame is still what it was: the marks behind its lists, and the same frame before them.
-/
import Derived.Test.YtgfblndmblgeeaaFhB
import Derived.Test.YtgfblndmblgeeaaFeS
namespace Go.Proofs.Ytgfblndmblgeeaa
open Go.RowKit
set_option linter.unusedVariables false

theorem extT_at (T : Nat → En) (n : Nat) : extT T n n = mkE := by
  unfold extT; rw [if_neg (Nat.lt_irrefl n), if_pos rfl]
theorem extT_at1 (T : Nat → En) (n : Nat) : extT T n (n + 1) = bhE := by
  unfold extT; rw [if_neg (by omega), if_neg (by omega)]
def UQ (P Q : Nat → Pm) : Nat → Pm := fun i => (Q i).with (Q i).ea (Q i).el (Q i).ec (P i).T
theorem marks_nth (Q : Nat → Pm) {n i : Nat} (hi : i < n) : nthP (firstP Q n ++ [pmK 77, pmK 78]) i = Q i := by
  unfold nthP firstP
  rw [List.getD, List.getElem?_append_left (by simp; exact hi), List.getElem?_map, List.getElem?_range hi]; rfl
theorem marks_77 (Q : Nat → Pm) (n : Nat) : nthP (firstP Q n ++ [pmK 77, pmK 78]) n = pmK 77 := by
  unfold nthP
  rw [List.getD, List.getElem?_append_right (by rw [firstP_len]; exact Nat.le_refl _), firstP_len, Nat.sub_self]; rfl
theorem marks_78 (Q : Nat → Pm) (n : Nat) : nthP (firstP Q n ++ [pmK 77, pmK 78]) (n + 1) = pmK 78 := by
  unfold nthP
  rw [List.getD, List.getElem?_append_right (by rw [firstP_len]; omega), firstP_len, Nat.add_sub_cancel_left]; rfl
theorem LentF.kinds {w : World} {B g n cp : Nat} {P Q : Nat → Pm} {d : Nat → Nat} (h : LentF w B g n cp P Q d) : w.cell? ⟨g, n * 8, none⟩ = some (.int .i64 77) ∧ w.cell? ⟨g, (n + 1) * 8, none⟩ = some (.int .i64 78) := by
  have h1 := (rowP_cells h.row (i := n) (by rw [List.length_append, firstP_len]; simp)).1
  have h2 := (rowP_cells h.row (i := n + 1) (by rw [List.length_append, firstP_len]; simp)).1
  rw [marks_77] at h1
  rw [marks_78] at h2
  exact ⟨h1, h2⟩
theorem LentF.mark {w : World} {B g n cp i : Nat} {P Q : Nat → Pm} (h : LentF w B g n cp P Q (fun _ => 0)) (hi : i < n) : ∃ ge, w.cell? ⟨g, i * 8 + 7, none⟩ = some (.slice (some ⟨ge, 0, none⟩) (P i).el (Q i).ec) ∧ (P i).el + 2 ≤ (Q i).ec ∧ (Q i).ec ≤ 9223372036854775807 ∧ w.cell? ⟨ge, (P i).el * 5, none⟩ = some (.string ⟨#[109, 97, 114, 107]⟩) ∧ w.cell? ⟨ge, ((P i).el + 1) * 5, none⟩ = some (.string ⟨#[98, 101, 104, 105, 110, 100]⟩) := by
  obtain ⟨ge, k1, k2⟩ := h.ent i hi
  have hp := h.part hi
  have hv := (h.vals i hi).2.2.2.2.2.2.2
  rw [k1, hv] at hp
  refine ⟨ge, hp, (row_max k2).1, by have := (row_max k2).2; unfold maxLen at this; omega, ?_, ?_⟩
  · have := (row_cells k2 (i := (P i).el) (by unfold firstEF; simp)).1
    rw [firstEF_get _ (by omega), extT_at] at this
    exact this
  · have := (row_cells k2 (i := (P i).el + 1) (by unfold firstEF; simp)).1
    rw [firstEF_get _ (by omega), extT_at1] at this
    exact this
theorem LentF.parts {w : World} {B g n cp : Nat} {P Q : Nat → Pm} (h : LentF w B g n cp P Q (fun _ => 0)) : PartsIn w (some ⟨g, 0, none⟩) n cp (UQ P Q) := by
  have hm := row_max h.row
  refine ⟨by omega, hm.2, .inr ⟨g, 0, rfl, (h.row.lt g rfl).2, fun i hi => ⟨?_, ?_⟩⟩⟩
  · have := rowP_cells h.row (i := i) (by rw [List.length_append, firstP_len]; omega)
    rw [marks_nth Q hi] at this
    simpa [PmAt, UQ, Pm.with] using this
  · obtain ⟨ge, k1, k2⟩ := h.ent i hi
    have hv := (h.vals i hi).2.2.2.2.2.2.2
    rw [Nat.add_zero] at hv
    show EntsIn w (Q i).ea (Q i).el (Q i).ec (P i).T
    rw [k1, hv]
    refine ⟨by have := (row_max k2).1; omega, (row_max k2).2, .inr ⟨ge, 0, rfl, (k2.lt ge rfl).2, fun k hk => ⟨?_, h.keys i hi k hk⟩⟩⟩
    have := row_cells k2 (i := k) (by unfold firstEF; simp; omega)
    rw [firstEF_get _ (by omega), extT_lt hk] at this
    simpa using this
theorem LentF.same {w : World} {B g n cp : Nat} {P Q R : Nat → Pm} (h : LentF w B g n cp P Q (fun _ => 0)) (hs : ∀ i, i < n → SamePm (R i) (P i)) : ∀ i, i < n → SamePm (UQ P Q i) (R i) := by
  intro i hi
  obtain ⟨l1, l2, l3, l4, l5, l6, l7, l8⟩ := h.vals i hi
  obtain ⟨m1, m2, m3, m4, m5, m6, m7, m8, m9⟩ := hs i hi
  refine ⟨l1.trans m1.symm, l2.trans m2.symm, l3.trans m3.symm, l4.trans m4.symm, l5.trans m5.symm, l6.trans m6.symm, l7.trans m7.symm, l8.trans m8.symm, fun k hk => ?_⟩
  have hk' : k < (Q i).el := hk
  exact (m9 k (by rw [l8] at hk'; omega)).symm
set_option maxHeartbeats 6400000 in
set_option maxRecDepth 100000 in
theorem still_any (fr tz o l n tn : Int) (B g len cp : Nat) (P Q : Nat → Pm) (b : Option Addr) (cb : Nat) (R : Nat → Pm) (w : World) (h : LentF w B g len cp P Q (fun _ => 0)) (hf : PartsIn w b len cb R) (hS : ∀ i, i < len → SamePm (R i) (P i)) :
    Calls Try.prog 16 #[.agg #[.int .i64 fr, .int .i64 tz, .int .i64 o, .int .i64 l, .int .i64 n, .int .i64 tn, .slice (some ⟨g, 0, none⟩) (len + 2) cp], .agg #[.int .i64 fr, .int .i64 tz, .int .i64 o, .int .i64 l, .int .i64 n, .int .i64 tn, .slice b len cb]] w fun e w' => e = .returned (.bool true) ∧ Below w.heap.size w w' := by
  have HM := aside (fun (i : Nat) (hi : i < len) => (h.on (bthen (bnew w (.cells #[.int .i64 fr, .int .i64 tz, .int .i64 o, .int .i64 l, .int .i64 n, .int .i64 tn, .slice (some ⟨g, 0, none⟩) (len + 2) cp] 26)) (bnew _ (.cells #[.int .i64 fr, .int .i64 tz, .int .i64 o, .int .i64 l, .int .i64 n, .int .i64 tn, .slice b len cb] 26)))).mark hi)
  have hkk := (h.on (bthen (bnew w (.cells #[.int .i64 fr, .int .i64 tz, .int .i64 o, .int .i64 l, .int .i64 n, .int .i64 tn, .slice (some ⟨g, 0, none⟩) (len + 2) cp] 26)) (bnew _ (.cells #[.int .i64 fr, .int .i64 tz, .int .i64 o, .int .i64 l, .int .i64 n, .int .i64 tn, .slice b len cb] 26)))).kinds
  have hcp : len + 2 ≤ cp := (row_max h.row).1
  have hcm : cp ≤ 9223372036854775807 := by have := (row_max h.row).2; unfold maxLen at this; omega
  have hmx : (len : Int) ≤ 9223372036854775807 := by omega
  have HP := aside (h.parts.keep (bthen (bnew w (.cells #[.int .i64 fr, .int .i64 tz, .int .i64 o, .int .i64 l, .int .i64 n, .int .i64 tn, .slice (some ⟨g, 0, none⟩) (len + 2) cp] 26)) (bnew _ (.cells #[.int .i64 fr, .int .i64 tz, .int .i64 o, .int .i64 l, .int .i64 n, .int .i64 tn, .slice b len cb] 26))))
  have HF := aside (hf.keep (bthen (bnew w (.cells #[.int .i64 fr, .int .i64 tz, .int .i64 o, .int .i64 l, .int .i64 n, .int .i64 tn, .slice (some ⟨g, 0, none⟩) (len + 2) cp] 26)) (bnew _ (.cells #[.int .i64 fr, .int .i64 tz, .int .i64 o, .int .i64 l, .int .i64 n, .int .i64 tn, .slice b len cb] 26))))
  have HS := aside (h.same hS)
  have BB := aside (bthen (bnew w (.cells #[.int .i64 fr, .int .i64 tz, .int .i64 o, .int .i64 l, .int .i64 n, .int .i64 tn, .slice (some ⟨g, 0, none⟩) (len + 2) cp] 26)) (bnew _ (.cells #[.int .i64 fr, .int .i64 tz, .int .i64 o, .int .i64 l, .int .i64 n, .int .i64 tn, .slice b len cb] 26)))
  have K1 := aside (blk_on (heap_alloc_new w (.cells #[.int .i64 fr, .int .i64 tz, .int .i64 o, .int .i64 l, .int .i64 n, .int .i64 tn, .slice (some ⟨g, 0, none⟩) (len + 2) cp] 26)) (bnew _ (.cells #[.int .i64 fr, .int .i64 tz, .int .i64 o, .int .i64 l, .int .i64 n, .int .i64 tn, .slice b len cb] 26)))
  have K2 := aside (heap_alloc_new (w.alloc (.cells #[.int .i64 fr, .int .i64 tz, .int .i64 o, .int .i64 l, .int .i64 n, .int .i64 tn, .slice (some ⟨g, 0, none⟩) (len + 2) cp] 26)) (.cells #[.int .i64 fr, .int .i64 tz, .int .i64 o, .int .i64 l, .int .i64 n, .int .i64 tn, .slice b len cb] 26))
  simp only [World.size_alloc] at K2
  clear h hf hS
  generalize UQ P Q = U at HP HS
  go_enter Try.func16, Try.ntmps16
  go_upto_region 1 with fail
  obtain ⟨i1, hi1⟩ : ∃ i1, w.heap.size = i1 := ⟨_, rfl⟩
  obtain ⟨i2, hi2⟩ : ∃ i2, i1 + 1 = i2 := ⟨_, rfl⟩
  rw [hi1, hi2] at K2
  rw [hi1] at K1
  rw [hi1, hi2]
  clear hi1 hi2
  generalize (w.alloc (.cells #[.int .i64 fr, .int .i64 tz, .int .i64 o, .int .i64 l, .int .i64 n, .int .i64 tn, .slice (some ⟨g, 0, none⟩) (len + 2) cp] 26)).alloc (.cells #[.int .i64 fr, .int .i64 tz, .int .i64 o, .int .i64 l, .int .i64 n, .int .i64 tn, .slice b len cb] 26) = X0 at K1 K2 HM hkk HP HF BB ⊢
  obtain ⟨hk7, hk8⟩ := hkk
  obtain ⟨f0, f1, f2, f3, f4, f5, f6⟩ := sep7 K1.out
  obtain ⟨e0, e1, e2, e3, e4, e5, e6⟩ := sep7 K2.out
  have hs1 : ((len + 2 : Nat) : Int) - 2 = (len : Int) := by omega
  go_upto_region 2 with fail
  go_upto_region 4 with fail
  go_wp2
  go_loopw [6] (fun t wr => ∃ (j : Nat), t = .int .i64 (j : Int) ∧ j ≤ len ∧ wr = X0) (fun t _ => len - (intOf t).toNat)
  case atStart => exact ⟨0, rfl, Nat.zero_le _, rfl⟩
  case round =>
    obtain ⟨j, rfl, hj, rfl⟩ := hrel
    by_cases hlt : (j : Int) < (len : Int)
    · have hj0 : (0 : Int) ≤ (j : Int) := by omega
      obtain ⟨ge, hc7, hle, hem, hm1, hm2⟩ := HM.out j (by omega)
      generalize (P j).el = el at hc7 hle hm1 hm2
      generalize (Q j).ec = ec at hc7 hle hem
      go_wp2_with fail
      go_roundw
      case rel => exact ⟨j + 1, by go_num, by omega, trivial⟩
      case measure => simp [intOf]; omega
    · have hjl : j = len := by omega
      subst hjl
      have bn := bnew wr (.cells #[.int .i64 fr, .int .i64 tz, .int .i64 o, .int .i64 l, .int .i64 n, .int .i64 tn, .slice (some ⟨g, 0, none⟩) (j + 2) cp] 26)
      have K3 := aside (heap_alloc_new wr (.cells #[.int .i64 fr, .int .i64 tz, .int .i64 o, .int .i64 l, .int .i64 n, .int .i64 tn, .slice (some ⟨g, 0, none⟩) (j + 2) cp] 26))
      clear hk7 hk8 HM
      go_upto_region 12 with fail
      obtain ⟨i3, hi3⟩ : ∃ i3, wr.heap.size = i3 := ⟨_, rfl⟩
      have fz6 := frozen_of_row _ _ 6 _ _ K3.out
      obtain ⟨g0, g1, g2, g3, g4, g5, g6⟩ := sep7 K3.out
      have b3 := (bn.setCell (p := ⟨wr.heap.size, 6, none⟩) (Nat.le_refl _) (.slice (some ⟨g, 0, none⟩) j cp))
      have kz := set_in 6 (.slice (some ⟨g, 0, none⟩) j cp) K3.out
      simp only [List.setIfInBounds_toArray, List.set_cons_zero, List.set_cons_succ] at kz
      have h1 := cell_in f6 bn
      have K2' := aside (blk_on K2.out b3)
      have HP' := aside (HP.out.keep b3)
      have HF' := aside (HF.out.keep b3)
      have BB' := aside (bthen BB.out b3)
      rw [hi3] at kz fz6 g0 g1 g2 g3 g4 g5 g6 K2' HP' HF' BB' ⊢
      clear b3 bn K3 f0 f1 f2 f3 f4 f5 f6 e0 e1 e2 e3 e4 e5 e6 hi3
      generalize wr.alloc (.cells #[.int .i64 fr, .int .i64 tz, .int .i64 o, .int .i64 l, .int .i64 n, .int .i64 tn, .slice (some ⟨g, 0, none⟩) (j + 2) cp] 26) = Y at *
      go_upto_region 13 with fail
      clear fz6 g0 g1 g2 g3 g4 g5 g6 h1
      generalize Y.setCell ⟨i3, 6, none⟩ (.slice (some ⟨g, 0, none⟩) j cp) = Z at kz K2' HP' HF' BB' ⊢
      obtain ⟨f0, f1, f2, f3, f4, f5, f6⟩ := sep7 kz
      obtain ⟨e0, e1, e2, e3, e4, e5, e6⟩ := sep7 K2'.out
      go_wp2_with fail
      refine (same_yes fr tz o l n tn _ j cp U b cb R Z HP'.out HF'.out HS.out).mono ?_
      rintro e w1 ⟨rfl, b1⟩
      go_wp2_with fail
      exact bodyPost_ret (v := .bool true) (by simp [results, Try.results16, go_sem]) rfl ⟨rfl, bthen BB'.out b1⟩

end Go.Proofs.Ytgfblndmblgeeaa

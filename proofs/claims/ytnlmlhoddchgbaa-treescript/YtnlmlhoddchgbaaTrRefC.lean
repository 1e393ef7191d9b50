/-
  The document's tree: Rows and Fold walked.
-/
import Derived.Test.YtnlmlhoddchgbaaTrRefB
namespace Go.Proofs.Ytnlmlhoddchgbaa
open Go.RowKit
set_option linter.unusedVariables false

theorem seg_rows (l : List RowR) {I J : Nat} (h : I ≤ J) (hJ : J ≤ l.length) : (List.range (J - I)).map (fun d => rowOf (nthR l (I + d))) = seg (l.map rowOf) I J := by
  unfold seg
  apply List.ext_getElem?
  intro i
  rw [List.getElem?_drop, List.getElem?_take]
  by_cases hi : i < J - I
  · rw [List.getElem?_map, List.getElem?_range hi, if_pos (by omega), List.getElem?_map, nthR_get (by omega)]; rfl
  · rw [List.getElem?_eq_none (by simp; omega), if_neg (by omega)]

theorem seg_none (l : List (Rw Int Mp)) {I J : Nat} (h : J ≤ I) : seg l I J = [] := by
  unfold seg
  exact List.drop_of_length_le (by rw [List.length_take]; omega)

/-- What Rows gives. -/
def RowsOut (W : World) (l : List RowR) (I J : Nat) (v : Value) : Prop :=
  ∃ a m c T, v = .slice a m c ∧ RowsIn6 W a m c T ∧ (List.range m).map (fun d => rowOf (T d)) = seg (l.map rowOf) I J

theorem rowsOut_none (W : World) (l : List RowR) {I J : Nat} (h : J ≤ I) : RowsOut W l I J (.slice none 0 0) :=
  ⟨none, 0, 0, nthR l, rfl, ⟨Nat.le_refl _, Nat.zero_le _, by omega, .inl rfl⟩, by rw [seg_none _ h]; rfl⟩

theorem rowsOut_some {W : World} {l : List RowR} {n cap b off I J : Nat} (hn : l.length = n) (hr : RowsIn6 W (some ⟨b, off, none⟩) n cap (nthR l)) (h : I < J) (hJ : J ≤ n) : RowsOut W l I J (.slice (some ⟨b, off + I * 4, none⟩) (J - I) (cap - I)) := by
  obtain ⟨h1, h2, h3, h4⟩ := hr
  refine ⟨_, _, _, fun d => nthR l (I + d), rfl, ⟨by omega, by omega, by omega, ?_⟩, seg_rows l (by omega) (by omega)⟩
  rcases h4 with h4 | ⟨b', off', e, hb, hc⟩
  · omega
  · injection e with e
    injection e with e1 e2
    subst e1 e2
    refine .inr ⟨b, off + I * 4, rfl, hb, fun i hi => ?_⟩
    have := hc (I + i) (by omega)
    rw [show off + (I + i) * 4 = off + I * 4 + i * 4 from by omega] at this
    exact this

set_option maxHeartbeats 3200000 in
set_option maxRecDepth 100000 in
theorem rrows_any {W0 W : World} {rb : Nat} {l : List RowR} (h : RT W0 rb l) (bw : Below W0.heap.size W0 W) (i j : Int) :
    Calls Try.prog 70 #[.pointer (some ⟨rb, 0, none⟩), .int .i64 i, .int .i64 j] W fun e w' => ∃ v, e = .returned v ∧ RowsOut W0 l (max i 0).toNat (min j (l.length : Int)).toNat v ∧ Below W.heap.size W w' := by
  obtain ⟨a, cap, hc0, hr⟩ := h.open
  have hc : W.cell? ⟨rb, 0, none⟩ = some (.slice a l.length cap) := (bw.cell (p := ⟨rb, 0, none⟩) (World.block_lt_of_cell? W0 ⟨rb, 0, none⟩ hc0)).trans hc0
  clear hc0 bw
  have HR := aside hr
  have HCC := aside (And.intro hr.1 hr.2.1)
  obtain ⟨n, hn⟩ : ∃ n, l.length = n := ⟨_, rfl⟩
  have HN := aside hn
  rw [hn] at hc HR HCC ⊢
  clear hr h hn
  go_enter Try.func70, Try.ntmps70
  go_wp2_with fail
  refine wp_region_held_drew (S := fun X => Below W.heap.size W X ∧ X.cell? ⟨rb, 0, none⟩ = some (.slice a n cap)) (by kernel_rfl) ⟨(Below.refl _ W).drew, hc⟩ (fun hHeld => ?_)
  refine wpAnyH_take (i := 0) (v := ?_) rfl (by kernel_rfl) (by kernel_rfl) (by kernel_rfl) (fun _ _ _ h => h) (Or.inl ⟨by rfl, ?_⟩) (by assumption) ?_
  rotate_left
  · intro w hSw
    go_simp
    try with_reducible rfl
  simp only [Act.put, List.getElem_toArray, List.getElem_cons_zero, List.setIfInBounds_toArray, List.set_cons_zero, List.set_cons_succ]
  refine wpAnyH_take (i := 1) (v := ?_) rfl (by kernel_rfl) (by kernel_rfl) (by kernel_rfl) (fun _ _ _ h => h) (Or.inl ⟨by rfl, ?_⟩) (by assumption) ?_
  rotate_left
  · intro w hSw
    go_simp
    try with_reducible rfl
  simp only [Act.put, List.getElem_toArray, List.getElem_cons_zero, List.getElem_cons_succ, List.setIfInBounds_toArray, List.set_cons_zero, List.set_cons_succ]
  refine wpAnyH_take (i := 2) (v := ?_) rfl (by kernel_rfl) (by kernel_rfl) (by kernel_rfl) (fun _ _ _ h => h) (Or.inl ⟨by rfl, ?_⟩) (by assumption) ?_
  rotate_left
  · intro w hSw
    go_simp
    try with_reducible rfl
  simp only [Act.put, List.getElem_toArray, List.getElem_cons_zero, List.getElem_cons_succ, List.setIfInBounds_toArray, List.set_cons_zero, List.set_cons_succ]
  refine wpAnyH_take (i := 3) (v := ?_) rfl (by kernel_rfl) (by kernel_rfl) (by kernel_rfl) (fun _ _ _ h => h) (Or.inl ⟨by rfl, ?_⟩) (by assumption) ?_
  rotate_left
  · intro w hSw
    go_simp
    try with_reducible rfl
  simp only [Act.put, List.getElem_toArray, List.getElem_cons_zero, List.getElem_cons_succ, List.setIfInBounds_toArray, List.set_cons_zero, List.set_cons_succ]
  refine wpAnyH_take (i := 4) (v := ?_) rfl (by kernel_rfl) (by kernel_rfl) (by kernel_rfl) (fun _ _ _ h => h) (Or.inl ⟨by rfl, ?_⟩) (by assumption) ?_
  rotate_left
  · intro w hSw
    go_simp
    try with_reducible rfl
  simp only [Act.put, List.getElem_toArray, List.getElem_cons_zero, List.getElem_cons_succ, List.setIfInBounds_toArray, List.set_cons_zero, List.set_cons_succ]
  refine wpAnyH_take (i := 5) (v := ?_) rfl (by kernel_rfl) (by kernel_rfl) (by kernel_rfl) (fun _ _ _ h => h) (Or.inl ⟨by rfl, ?_⟩) (by assumption) ?_
  rotate_left
  · intro w hSw
    go_simp
    try with_reducible rfl
  simp only [Act.put, List.getElem_toArray, List.getElem_cons_zero, List.getElem_cons_succ, List.setIfInBounds_toArray, List.set_cons_zero, List.set_cons_succ]
  refine wpAnyH_take (i := 6) (v := ?_) rfl (by kernel_rfl) (by kernel_rfl) (by kernel_rfl) (fun _ _ _ h => h) (Or.inl ⟨by rfl, ?_⟩) (by assumption) ?_
  rotate_left
  · intro w hSw
    go_simp
    try with_reducible rfl
  simp only [Act.put, List.getElem_toArray, List.getElem_cons_zero, List.getElem_cons_succ, List.setIfInBounds_toArray, List.set_cons_zero, List.set_cons_succ]
  refine wpAnyH_take (i := 7) (v := ?_) rfl (by kernel_rfl) (by kernel_rfl) (by kernel_rfl) (fun _ _ _ h => h) (Or.inl ⟨by rfl, ?_⟩) (by assumption) ?_
  rotate_left
  · intro w hSw
    go_simp
    try with_reducible rfl
  simp only [Act.put, List.getElem_toArray, List.getElem_cons_zero, List.getElem_cons_succ, List.setIfInBounds_toArray, List.set_cons_zero, List.set_cons_succ]
  refine wpAnyH_take (i := 8) (v := ?_) rfl (by kernel_rfl) (by kernel_rfl) (by kernel_rfl) (fun _ _ _ h => h) (Or.inl ⟨by rfl, ?_⟩) (by assumption) ?_
  rotate_left
  · intro w hSw
    go_simp
    try with_reducible rfl
  simp only [Act.put, List.getElem_toArray, List.getElem_cons_zero, List.getElem_cons_succ, List.setIfInBounds_toArray, List.set_cons_zero, List.set_cons_succ]
  refine wpAnyH_take (i := 9) (v := ?_) rfl (by kernel_rfl) (by kernel_rfl) (by kernel_rfl) (fun _ _ _ h => h) (Or.inl ⟨by rfl, ?_⟩) (by assumption) ?_
  rotate_left
  · intro w hSw
    go_simp
    try with_reducible rfl
  simp only [Act.put, List.getElem_toArray, List.getElem_cons_zero, List.getElem_cons_succ, List.setIfInBounds_toArray, List.set_cons_zero, List.set_cons_succ]
  refine wpAnyH_take (i := 10) (v := ?_) rfl (by kernel_rfl) (by kernel_rfl) (by kernel_rfl) (fun _ _ _ h => h) (Or.inl ⟨by rfl, ?_⟩) (by assumption) ?_
  rotate_left
  · intro w hSw
    go_simp
    try with_reducible rfl
  simp only [Act.put, List.getElem_toArray, List.getElem_cons_zero, List.getElem_cons_succ, List.setIfInBounds_toArray, List.set_cons_zero, List.set_cons_succ]
  refine wpAnyH_done (by kernel_rfl) ?_ _
  have HW := aside hHeld
  clear hHeld hc
  rw [show (if i < 0 then (0 : Int) else i) = ((max i 0).toNat : Int) from by split <;> omega, show (if (n : Int) < j then (n : Int) else j) = min j (n : Int) from by split <;> omega]
  have hJn : min j (n : Int) ≤ (n : Int) := by omega
  obtain ⟨I, hI⟩ : ∃ x, (max i 0).toNat = x := ⟨_, rfl⟩
  obtain ⟨Z, hZ⟩ : ∃ x, min j (n : Int) = x := ⟨_, rfl⟩
  have HI := aside hI
  have HZ := aside hZ
  rw [hZ] at hJn
  rw [hI, hZ]
  clear hI hZ
  by_cases hz : Z ≤ (I : Int)
  · have HO := aside (rowsOut_none W0 l (I := I) (J := Z.toNat) (by omega))
    clear hJn
    go_wp2
    go_ret
    exact ⟨_, rfl, by rw [HI.out, HZ.out]; exact HO.out, HW.out.1⟩
  · obtain ⟨J, rfl⟩ : ∃ J : Nat, Z = (J : Int) := ⟨Z.toNat, by omega⟩
    have hIJ : I < J := by omega
    have hJ2 : J ≤ n := by omega
    rcases HR.out.2.2.2 with h0 | ⟨b, off, rfl, -, -⟩
    · omega
    · have HO := aside (rowsOut_some HN.out HR.out hIJ hJ2)
      have hc2 := HW.out.2
      have hnc := HCC.out.1
      have hic : ¬ cap = I := by omega
      have hI0 : (0 : Int) ≤ (I : Int) := by omega
      have hJ0 : (0 : Int) ≤ (J : Int) := by omega
      have hIJ2 : I ≤ J := by omega
      have hJc : J ≤ cap := by omega
      have hIJi : (I : Int) ≤ (J : Int) := by omega
      have hz2 : (I : Int) < (J : Int) := by omega
      clear hJn hnc
      go_wp2
      go_ret
      exact ⟨_, rfl, by rw [HI.out, HZ.out]; exact HO.out, HW.out.1⟩

end Go.Proofs.Ytnlmlhoddchgbaa

/-
  Written and Held of the document's ghost.
-/
import Derived.Test.YtfkdhambbpkmpaaGvR
import Derived.Deep.CutBlock
import Derived.Deep.DeepCutAuto
namespace Go.Proofs.Ytfkdhambbpkmpaa
open Go.RowKit
set_option linter.unusedVariables false

set_option maxHeartbeats 8000000 in
set_option maxRecDepth 100000 in
theorem rhwritten_any {w : World} {B q : Nat} {va : Value} {L : List En} {H : Nat → Hd} (h : Rh w B q va L H) (h1 : OneW L) (e : En) : Calls Try.prog 18 #[.pointer (some ⟨q, 0, none⟩), .agg #[.string e.k, .int .i64 e.c, .int .i64 e.n, .string e.v, .bool e.d]] w fun r w' => r = .returned (.bool (wrB L e)) ∧ Below w.heap.size w w' := by
  obtain ⟨b, hb⟩ : ∃ b, w.heap.size = b := ⟨_, rfl⟩
  obtain ⟨V, hV⟩ : ∃ V, w.alloc (.cells #[.string e.k, .int .i64 e.c, .int .i64 e.n, .string e.v, .bool e.d] 31) = V := ⟨_, rfl⟩
  have kq := heap_alloc_new w (.cells #[.string e.k, .int .i64 e.c, .int .i64 e.n, .string e.v, .bool e.d] 31)
  have bq := bnew w (.cells #[.string e.k, .int .i64 e.c, .int .i64 e.n, .string e.v, .bool e.d] 31)
  rw [hV] at kq bq
  rw [hb] at kq
  have HR := aside (h.on bq)
  have KQ := aside kq
  have BQ := aside bq
  have HLN := aside (show L.length ≤ 9223372036854775807 from by obtain ⟨a, c, -, h2, h3, -⟩ := own_slice h.all; unfold maxLen at h3; omega)
  have HW := aside (wrB_iff h1 e)
  obtain ⟨u, hu⟩ : ∃ u, wrB L e = u := ⟨_, rfl⟩
  rw [hu] at HW ⊢
  have c0 : V.cell? ⟨q, 0, none⟩ = some va := by rw [cell_of_row _ _ 0 _ _ _ HR.out.bx]; rfl
  obtain ⟨av, cv, rfl, hc1, hc2, -⟩ := own_slice h.all
  obtain ⟨nL, hnL⟩ : ∃ n, L.length = n := ⟨_, rfl⟩
  have HNL := aside hnL
  rw [hnL] at c0
  have hmx : (nL : Int) ≤ 9223372036854775807 := by have := HLN.out; omega
  clear h h1 kq bq hu hc1 hc2 hnL
  go_enter Try.func18, Try.ntmps18
  go_upto_region 1 with fail
  try rw [hV]
  try rw [hb]
  clear hV hb
  go_wp2_with fail
  go_loopw [5] (fun i wr => ∃ j : Nat, i = .int .i64 (j : Int) ∧ j ≤ nL ∧ Hid (∀ k x, k < j → L[k]? = some x → ¬ x = e) ∧ Below V.heap.size V wr) (fun i _ => nL - (intOf i).toNat)
  case atStart => exact ⟨0, rfl, Nat.zero_le _, fun k x hk => by omega, Below.refl _ _⟩
  case round =>
    obtain ⟨j, rfl, hj, HP, hB⟩ := hrel
    have HB := aside hB
    have c0 := cell_in c0 hB
    clear hB
    by_cases hlt : (j : Int) < (nL : Int)
    · have hj0 : (0 : Int) ≤ (j : Int) := by omega
      obtain ⟨x, hx⟩ : ∃ x, L[j]? = some x := ⟨L[j]'(by have := HNL.out; omega), List.getElem?_eq_getElem _⟩
      have HXM := aside (List.mem_of_getElem? hx)
      have HXJ := aside hx
      obtain ⟨g, c, e1, g0, g1, g2, g3, g4⟩ := (HR.out.on HB.out).row hx
      injection e1 with e1 _ e3
      subst e1 e3
      obtain ⟨⟨y0, y1, y2, y3, y4⟩, -⟩ := box5 (blk_on KQ.out HB.out)
      have SX := aside (fun (W : World) (bb : Below wr.heap.size wr W) => (show W.cell? ⟨q, 0, none⟩ = some (.slice (some ⟨g, 0, none⟩) nL cv) ∧ (W.cell? ⟨b, 0, none⟩ = some (.string e.k) ∧ W.cell? ⟨b, 1, none⟩ = some (.int .i64 e.c) ∧ W.cell? ⟨b, 2, none⟩ = some (.int .i64 e.n) ∧ W.cell? ⟨b, 3, none⟩ = some (.string e.v) ∧ W.cell? ⟨b, 4, none⟩ = some (.bool e.d)) ∧ W.cell? ⟨g, j * 5, none⟩ = some (.string x.k) ∧ W.cell? ⟨g, j * 5 + 1, none⟩ = some (.int .i64 x.c) ∧ W.cell? ⟨g, j * 5 + 2, none⟩ = some (.int .i64 x.n) ∧ W.cell? ⟨g, j * 5 + 3, none⟩ = some (.string x.v) ∧ W.cell? ⟨g, j * 5 + 4, none⟩ = some (.bool x.d) from
        ⟨cell_in c0 bb, ⟨cell_in y0 bb, cell_in y1 bb, cell_in y2 bb, cell_in y3 bb, cell_in y4 bb⟩, cell_in g0 bb, cell_in g1 bb, cell_in g2 bb, cell_in g3 bb, cell_in g4 bb⟩))
      clear hx g0 g1 g2 g3 g4 y0 y1 y2 y3 y4
      have HEQ := fun W => ent_eq x e W
      obtain ⟨z, hz⟩ : ∃ z, enEqB x e = z := ⟨_, rfl⟩
      have HZ := aside hz
      rw [hz] at HEQ
      have hEQ := HEQ
      clear hz HEQ
      go_wp2_with fail
      refine wp_region_held_drew (S := fun W => W.cell? ⟨q, 0, none⟩ = some (.slice (some ⟨g, 0, none⟩) nL cv) ∧ (W.cell? ⟨b, 0, none⟩ = some (.string e.k) ∧ W.cell? ⟨b, 1, none⟩ = some (.int .i64 e.c) ∧ W.cell? ⟨b, 2, none⟩ = some (.int .i64 e.n) ∧ W.cell? ⟨b, 3, none⟩ = some (.string e.v) ∧ W.cell? ⟨b, 4, none⟩ = some (.bool e.d)) ∧ W.cell? ⟨g, j * 5, none⟩ = some (.string x.k) ∧ W.cell? ⟨g, j * 5 + 1, none⟩ = some (.int .i64 x.c) ∧ W.cell? ⟨g, j * 5 + 2, none⟩ = some (.int .i64 x.n) ∧ W.cell? ⟨g, j * 5 + 3, none⟩ = some (.string x.v) ∧ W.cell? ⟨g, j * 5 + 4, none⟩ = some (.bool x.d)) (by kernel_rfl) (SX.out _ (Below.refl _ wr).drew) (fun hHeld => ?_)
      refine wpAnyH_take (i := 0) (v := ?_) rfl (by kernel_rfl) (by kernel_rfl) (by kernel_rfl) (fun _ _ _ h => h) (Or.inl ⟨by rfl, ?_⟩) (by assumption) ?_
      rotate_left
      · intro w hSw
        go_simp
        try with_reducible rfl
      simp only [Act.put, List.getElem_toArray, List.getElem_cons_zero, List.setIfInBounds_toArray, List.set_cons_zero, List.set_cons_succ]
      refine wpAnyH_take (i := 1) (v := ?_) rfl (by kernel_rfl) (by kernel_rfl) (by kernel_rfl) (fun _ _ _ h => h) (Or.inl ⟨by rfl, ?_⟩) (by assumption) ?_
      rotate_left
      · intro w hSw
        go_simp
        try with_reducible rfl
      simp only [Act.put, List.getElem_toArray, List.getElem_cons_zero, List.getElem_cons_succ, List.setIfInBounds_toArray, List.set_cons_zero, List.set_cons_succ]
      refine wpAnyH_take (i := 2) (v := ?_) rfl (by kernel_rfl) (by kernel_rfl) (by kernel_rfl) (fun _ _ _ h => h) (Or.inl ⟨by rfl, ?_⟩) (by assumption) ?_
      rotate_left
      · intro w hSw
        go_simp
        try with_reducible rfl
      simp only [Act.put, List.getElem_toArray, List.getElem_cons_zero, List.getElem_cons_succ, List.setIfInBounds_toArray, List.set_cons_zero, List.set_cons_succ]
      refine wpAnyH_take (i := 3) (v := ?_) rfl (by kernel_rfl) (by kernel_rfl) (by kernel_rfl) (fun _ _ _ h => h) (Or.inl ⟨by rfl, ?_⟩) (by assumption) ?_
      rotate_left
      · intro w hSw
        go_simp
        try with_reducible rfl
      simp only [Act.put, List.getElem_toArray, List.getElem_cons_zero, List.getElem_cons_succ, List.setIfInBounds_toArray, List.set_cons_zero, List.set_cons_succ]
      refine wpAnyH_take (i := 4) (v := ?_) rfl (by kernel_rfl) (by kernel_rfl) (by kernel_rfl) (fun _ _ _ h => h) (Or.inl ⟨by rfl, ?_⟩) (by assumption) ?_
      rotate_left
      · intro w hSw
        go_simp
        try with_reducible rfl
      simp only [Act.put, List.getElem_toArray, List.getElem_cons_zero, List.getElem_cons_succ, List.setIfInBounds_toArray, List.set_cons_zero, List.set_cons_succ]
      refine wpAnyH_take (i := 5) (v := ?_) rfl (by kernel_rfl) (by kernel_rfl) (by kernel_rfl) (fun _ _ _ h => h) (Or.inl ⟨by rfl, ?_⟩) (by assumption) ?_
      rotate_left
      · intro w hSw
        go_simp
        try with_reducible rfl
      simp only [Act.put, List.getElem_toArray, List.getElem_cons_zero, List.getElem_cons_succ, List.setIfInBounds_toArray, List.set_cons_zero, List.set_cons_succ]
      refine wpAnyH_take (i := 6) (v := ?_) rfl (by kernel_rfl) (by kernel_rfl) (by kernel_rfl) (fun _ _ _ h => h) (Or.inl ⟨by rfl, ?_⟩) (by assumption) ?_
      rotate_left
      · intro w hSw
        go_simp
        try with_reducible rfl
      simp only [Act.put, List.getElem_toArray, List.getElem_cons_zero, List.getElem_cons_succ, List.setIfInBounds_toArray, List.set_cons_zero, List.set_cons_succ]
      refine wpAnyH_take (i := 7) (v := ?_) rfl (by kernel_rfl) (by kernel_rfl) (by kernel_rfl) (fun _ _ _ h => h) (Or.inl ⟨by rfl, ?_⟩) (by assumption) ?_
      rotate_left
      · intro w hSw
        go_simp
        try with_reducible rfl
      simp only [Act.put, List.getElem_toArray, List.getElem_cons_zero, List.getElem_cons_succ, List.setIfInBounds_toArray, List.set_cons_zero, List.set_cons_succ]
      refine wpAnyH_take (i := 8) (v := ?_) rfl (by kernel_rfl) (by kernel_rfl) (by kernel_rfl) (fun _ _ _ h => h) (Or.inl ⟨by rfl, ?_⟩) (by assumption) ?_
      rotate_left
      · intro w hSw
        go_simp
        try with_reducible rfl
      simp only [Act.put, List.getElem_toArray, List.getElem_cons_zero, List.getElem_cons_succ, List.setIfInBounds_toArray, List.set_cons_zero, List.set_cons_succ]
      refine wpAnyH_done (by kernel_rfl) ?_ _
      clear SX hEQ
      have HBD := aside (HB.out.drew)
      cases z
      · have HP2 := aside (show ∀ k x, k < j + 1 → L[k]? = some x → ¬ x = e from fun k x' hk hx' => by
          by_cases h9 : k = j
          · rw [h9, HXJ.out] at hx'
            injection hx' with hx'
            rw [← hx']
            intro h8
            have := (enEqB_iff x e).2 h8
            rw [HZ.out] at this
            cases this
          · exact HP.out k x' (by omega) hx')
        clear hHeld
        go_wp2
        go_roundw
        case rel => exact ⟨j + 1, by first | rfl | go_num, by omega, HP2.out, by first | exact HBD.out | exact HB.out⟩
        case measure => simp [intOf] <;> omega
      · have HU := aside (show u = true from HW.out.2 (by rw [← (enEqB_iff x e).1 HZ.out]; exact HXM.out))
        clear hHeld
        go_wp2
        go_ret
        exact ⟨by rw [HU.out]; rfl, bthen BQ.out (by first | exact HBD.out | exact HB.out)⟩
    · have HU := aside (show u = false from by
        cases u with
        | false => rfl
        | true =>
          obtain ⟨k, hk, hk2⟩ := List.getElem_of_mem (HW.out.1 rfl)
          exact absurd hk2 (HP.out k _ (by have := HNL.out; omega) (List.getElem?_eq_getElem hk)))
      go_wp2
      go_ret
      exact ⟨by rw [HU.out]; rfl, bthen BQ.out HB.out⟩
set_option maxHeartbeats 3200000 in
theorem rhheld_any {w : World} {B q : Nat} {va : Value} {L : List En} {H : Nat → Hd} (h : Rh w B q va L H) (node : Int) : Calls Try.prog 11 #[.pointer (some ⟨q, 0, none⟩), .int .i64 node] w fun e w' => Gvs w (heldG H node).n (heldG H node).l e w' := by
  have BE := aside (bnew w (.cells #[] 31))
  have OE := aside (own_emptyE w w.heap.size (Nat.le_refl _))
  by_cases hn : 0 ≤ node ∧ node < 8
  · have hg : heldG H node = H node.toNat := by unfold heldG; rw [if_pos hn]
    rw [hg]
    obtain ⟨i, rfl⟩ : ∃ i : Nat, node = (i : Int) := ⟨node.toNat, by omega⟩
    rw [Int.toNat_natCast]
    have hi : i < 8 := by omega
    have c0 := cell_in (h.cellH i hi) BE.out
    obtain ⟨T, hE, hT, hf⟩ := entsG_of (h.held i hi) (mapKeys (h.maps i hi))
    have HEE := aside (hE.keep BE.out)
    have HF := aside hf
    have HT := aside hT
    have HSZ := aside (h.sz i hi)
    have hi0 : (0 : Int) ≤ (i : Int) := by omega
    have hi8 : (i : Int) < 8 := by omega
    have hi9 : ¬ (i : Int) < 0 := by omega
    have hi10 : ¬ (8 : Int) ≤ (i : Int) := by omega
    unfold Hd.v at c0
    generalize H i = hd at *
    clear h hE hT hf hn hg hi
    go_enter Try.func11, Try.ntmps11
    go_wp2_with (at_builtin; refine wpList_plain rfl fun K hK => op_append_entsG _ _ rfl w.heap.size 0 _ [] (by rfl) OE.out hd.a hd.n hd.c hd.n T (by rfl) HEE.out HF.out (by omega) (by have := HSZ.out; omega) (by simp) ?_; intro a3 c3 w3 own3 gr3; refine hK _ _ ?_; refine Hid.out ?_)
    refine aside ?_
    have B3 := aside (BE.out.grown gr3 (by simp) (fun k e => (OE.out.lt k e).1))
    have O3 := aside (show w3.ownsRow w.heap.size 31 5 (.slice a3 hd.n c3) hd.n (entCells hd.l) from by rw [← HT.out]; exact own3)
    clear own3 gr3 OE BE
    go_wp2
    go_ret
    exact ⟨_, _, rfl, O3.out, B3.out⟩
  · have hg : heldG H node = hd0 := by unfold heldG; rw [if_neg hn]
    rw [hg]
    clear h hg
    by_cases h1 : node < 0
    · go_enter Try.func11, Try.ntmps11
      go_wp2
      go_ret
      exact ⟨_, _, rfl, OE.out, BE.out⟩
    · have h2 : (8 : Int) ≤ node := by omega
      go_enter Try.func11, Try.ntmps11
      go_wp2
      go_ret
      exact ⟨_, _, rfl, OE.out, BE.out⟩
end Go.Proofs.Ytfkdhambbpkmpaa

/-
  The law SpanTiles, walked: it returns true at every list of ranges and every range.
-/
import Derived.Test.YtidajlnaehhkkaaRTile
namespace Go.Proofs.Ytidajlnaehhkkaa
open Go.RowKit

theorem tile_at {a : Option Addr} {len cap : Nat} {T : Nat → Rg} {rlo rhi : ByteArray} {rop q : Bool} (hq : tiles T len ⟨rlo, rhi, rop⟩ = q) (w : World) (h : RgsIn w.heap.size w a len cap T) :
    Calls Try.prog 25 #[.slice a len cap, .agg #[.string rlo, .string rhi, .bool rop]] w fun e w' => e = .returned (.bool q) ∧ Below w.heap.size w w' := by
  subst hq; exact tile_any a len cap T rlo rhi rop w h

theorem refTile_at {a : Option Addr} {len cap : Nat} {T : Nat → Rg} {rlo rhi : ByteArray} {rop q : Bool} (hq : tiles T len ⟨rlo, rhi, rop⟩ = q) (w : World) (h : RgsIn w.heap.size w a len cap T) :
    Calls Try.prog 26 #[.slice a len cap, .agg #[.string rlo, .string rhi, .bool rop]] w fun e w' => e = .returned (.bool q) ∧ Below w.heap.size w w' := by
  subst hq; exact refTile_any a len cap T rlo rhi rop w h

set_option maxRecDepth 100000 in
set_option maxHeartbeats 4000000 in
theorem tiles_walk (a : Option Addr) (len cap : Nat) (T : Nat → Rg) (rlo rhi : ByteArray) (rop : Bool) (w : World) (hw : MaxAt w) (h : RgsIn w.heap.size w a len cap T) (hlen : len * 40 ≤ 140737488351232)
    (hform : (a = none ∧ len = 0 ∧ cap = 0) ∨ ∃ y, a = some y) :
    Calls Try.prog 7 #[.slice a len cap, .agg #[.string rlo, .string rhi, .bool rop]] w fun e w' => e = .returned (.bool true) ∧ Below w.heap.size w w' := by
  have hW : Hid (MaxAt (w.alloc (.cells #[.string rlo, .string rhi, .bool rop] 23))) := hw.below (bnew w _)
  obtain ⟨p, hp⟩ : ∃ p, rises T len = p := ⟨_, rfl⟩
  obtain ⟨q, hq⟩ : ∃ q, tiles T len ⟨rlo, rhi, rop⟩ = q := ⟨_, rfl⟩
  have C0 := aside (fun w h => shown_any w h)
  have H := aside h
  clear hw h
  go_enter Try.func7, Try.ntmps7
  go_wp2_with fail
  refine (C0.out _ hW.out).mono ?_
  rintro e w1 ⟨rfl, b1⟩
  obtain ⟨q0, q1, q2⟩ := box3 b1
  have b01 := bthen (bnew w (.cells #[.string rlo, .string rhi, .bool rop] 23)) b1
  have HL := H.out.up b01 b01.size
  clear b1 hW C0
  go_wp2_with (at_builtin; refine append_copy rfl _ _ rfl (by rfl) a len cap T (by rfl) HL hlen hform ?_; intro a' cap' w2 hO b2; refine Hid.out ?_)
  refine aside ?_
  have HL2 := aside (HL.up b2 b2.size)
  have HO := aside hO
  have b02 := bthen b01 b2
  replace q0 := cell_on q0 b2
  replace q1 := cell_on q1 b2
  replace q2 := cell_on q2 b2
  clear hO HL b2 b01 hform hlen H
  have C1 := aside (fun w h => rising_at (a := a') (cap := cap') hp w h)
  have C2 := aside (fun w h => refRising_at (a := a) (cap := cap) hp w h)
  have C3 := aside (fun w h => tile_at (a := a') (cap := cap') hq w h)
  have C4 := aside (fun w h => refTile_at (a := a) (cap := cap) hq w h)
  have C5 := aside (fun w h h' => ranges_same a' a len cap' cap T w h h')
  clear hp hq
  go_wp2_with fail
  refine wp_region_held_drew (S := fun X => Below w2.heap.size w2 X ∧ X.cell? ⟨w.heap.size, 0, none⟩ = some (.string rlo) ∧ X.cell? ⟨w.heap.size, 1, none⟩ = some (.string rhi) ∧ X.cell? ⟨w.heap.size, 2, none⟩ = some (.bool rop)) (by kernel_rfl) ⟨(Below.refl _ w2).drew, q0, q1, q2⟩ (fun hHeld => ?_)
  clear q0 q1 q2
  refine wpAnyH_take (i := 0) (v := ?_) rfl (by kernel_rfl) (by kernel_rfl) (by kernel_rfl) (fun _ _ _ h => h) (Or.inl ⟨by rfl, ?_⟩) (by assumption) ?_
  rotate_left
  · intro w hSw
    go_simp
    try with_reducible rfl
  simp only [Act.put, List.getElem_toArray, List.getElem_cons_zero, List.setIfInBounds_toArray, List.set_cons_zero, List.set_cons_succ]
  refine wpAnyH_take (i := 2) (v := ?_) rfl (by kernel_rfl) (by kernel_rfl) (by kernel_rfl) (fun _ _ _ h => h) (Or.inl ⟨by rfl, ?_⟩) (by assumption) ?_
  rotate_left
  · intro w hSw
    go_simp
    try with_reducible rfl
  simp only [Act.put, List.getElem_toArray, List.getElem_cons_zero, List.getElem_cons_succ, List.setIfInBounds_toArray, List.set_cons_zero, List.set_cons_succ]
  refine wpAnyH_ready (rs := [1]) (by kernel_rfl) (by simp) ?_
  refine AllReadyH.cons rfl (fun K hK => ?_) AllReadyH.nil
  go_simp
  refine (C1.out _ (HO.out.up hHeld.1 hHeld.1.size)).mono ?_
  rintro e w9 ⟨rfl, bb⟩
  refine hK.out _ _ (one_keep hHeld bb) (fun hHeld => ?_)
  clear hK K C1
  refine wpAnyH_ready (rs := [3]) (by kernel_rfl) (by simp) ?_
  refine AllReadyH.cons rfl (fun K hK => ?_) AllReadyH.nil
  go_simp
  refine (C2.out _ (HL2.out.up hHeld.1 hHeld.1.size)).mono ?_
  rintro e w9 ⟨rfl, bb⟩
  refine hK.out _ _ (one_keep hHeld bb) (fun hHeld => ?_)
  clear hK K C2
  refine wpAnyH_take (i := 4) (v := ?_) rfl (by kernel_rfl) (by kernel_rfl) (by kernel_rfl) (fun _ _ _ h => h) (Or.inl ⟨by rfl, ?_⟩) (by assumption) ?_
  rotate_left
  · intro w hSw
    go_simp
    try with_reducible rfl
  simp only [Act.put, List.getElem_toArray, List.getElem_cons_zero, List.getElem_cons_succ, List.setIfInBounds_toArray, List.set_cons_zero, List.set_cons_succ]
  refine wpAnyH_take (i := 5) (v := ?_) rfl (by kernel_rfl) (by kernel_rfl) (by kernel_rfl) (fun _ _ _ h => h) (Or.inl ⟨by rfl, ?_⟩) (by assumption) ?_
  rotate_left
  · intro w hSw
    go_simp
    try with_reducible rfl
  simp only [Act.put, List.getElem_toArray, List.getElem_cons_zero, List.getElem_cons_succ, List.setIfInBounds_toArray, List.set_cons_zero, List.set_cons_succ]
  refine wpAnyH_take (i := 6) (v := ?_) rfl (by kernel_rfl) (by kernel_rfl) (by kernel_rfl) (fun _ _ _ h => h) (Or.inl ⟨by rfl, ?_⟩) (by assumption) ?_
  rotate_left
  · intro w hSw
    go_simp
    try with_reducible rfl
  simp only [Act.put, List.getElem_toArray, List.getElem_cons_zero, List.getElem_cons_succ, List.setIfInBounds_toArray, List.set_cons_zero, List.set_cons_succ]
  refine wpAnyH_take (i := 7) (v := ?_) rfl (by kernel_rfl) (by kernel_rfl) (by kernel_rfl) (fun _ _ _ h => h) (Or.inl ⟨by rfl, ?_⟩) (by assumption) ?_
  rotate_left
  · intro w hSw
    go_simp
    try with_reducible rfl
  simp only [Act.put, List.getElem_toArray, List.getElem_cons_zero, List.getElem_cons_succ, List.setIfInBounds_toArray, List.set_cons_zero, List.set_cons_succ]
  refine wpAnyH_take (i := 9) (v := ?_) rfl (by kernel_rfl) (by kernel_rfl) (by kernel_rfl) (fun _ _ _ h => h) (Or.inl ⟨by rfl, ?_⟩) (by assumption) ?_
  rotate_left
  · intro w hSw
    go_simp
    try with_reducible rfl
  simp only [Act.put, List.getElem_toArray, List.getElem_cons_zero, List.getElem_cons_succ, List.setIfInBounds_toArray, List.set_cons_zero, List.set_cons_succ]
  refine wpAnyH_take (i := 10) (v := ?_) rfl (by kernel_rfl) (by kernel_rfl) (by kernel_rfl) (fun _ _ _ h => h) (Or.inl ⟨by rfl, ?_⟩) (by assumption) ?_
  rotate_left
  · intro w hSw
    go_simp
    try with_reducible rfl
  simp only [Act.put, List.getElem_toArray, List.getElem_cons_zero, List.getElem_cons_succ, List.setIfInBounds_toArray, List.set_cons_zero, List.set_cons_succ]
  refine wpAnyH_ready (rs := [8]) (by kernel_rfl) (by simp) ?_
  refine AllReadyH.cons rfl (fun K hK => ?_) AllReadyH.nil
  go_simp
  refine (C3.out _ (HO.out.up hHeld.1 hHeld.1.size)).mono ?_
  rintro e w9 ⟨rfl, bb⟩
  refine hK.out _ _ (one_keep hHeld bb) (fun hHeld => ?_)
  clear hK K C3
  refine wpAnyH_ready (rs := [11]) (by kernel_rfl) (by simp) ?_
  refine AllReadyH.cons rfl (fun K hK => ?_) AllReadyH.nil
  go_simp
  refine (C4.out _ (HL2.out.up hHeld.1 hHeld.1.size)).mono ?_
  rintro e w9 ⟨rfl, bb⟩
  refine hK.out _ _ (one_keep hHeld bb) (fun hHeld => ?_)
  clear hK K C4
  refine wpAnyH_take (i := 12) (v := ?_) rfl (by kernel_rfl) (by kernel_rfl) (by kernel_rfl) (fun _ _ _ h => h) (Or.inl ⟨by rfl, ?_⟩) (by assumption) ?_
  rotate_left
  · intro w hSw
    go_simp
    try with_reducible rfl
  simp only [Act.put, List.getElem_toArray, List.getElem_cons_zero, List.getElem_cons_succ, List.setIfInBounds_toArray, List.set_cons_zero, List.set_cons_succ]
  refine wpAnyH_take (i := 13) (v := ?_) rfl (by kernel_rfl) (by kernel_rfl) (by kernel_rfl) (fun _ _ _ h => h) (Or.inl ⟨by rfl, ?_⟩) (by assumption) ?_
  rotate_left
  · intro w hSw
    go_simp
    try with_reducible rfl
  simp only [Act.put, List.getElem_toArray, List.getElem_cons_zero, List.getElem_cons_succ, List.setIfInBounds_toArray, List.set_cons_zero, List.set_cons_succ]
  refine wpAnyH_take (i := 14) (v := ?_) rfl (by kernel_rfl) (by kernel_rfl) (by kernel_rfl) (fun _ _ _ h => h) (Or.inl ⟨by rfl, ?_⟩) (by assumption) ?_
  rotate_left
  · intro w hSw
    go_simp
    try with_reducible rfl
  simp only [Act.put, List.getElem_toArray, List.getElem_cons_zero, List.getElem_cons_succ, List.setIfInBounds_toArray, List.set_cons_zero, List.set_cons_succ]
  refine wpAnyH_take (i := 15) (v := ?_) rfl (by kernel_rfl) (by kernel_rfl) (by kernel_rfl) (fun _ _ _ h => h) (Or.inl ⟨by rfl, ?_⟩) (by assumption) ?_
  rotate_left
  · intro w hSw
    go_simp
    try with_reducible rfl
  simp only [Act.put, List.getElem_toArray, List.getElem_cons_zero, List.getElem_cons_succ, List.setIfInBounds_toArray, List.set_cons_zero, List.set_cons_succ]
  refine wpAnyH_take (i := 16) (v := ?_) rfl (by kernel_rfl) (by kernel_rfl) (by kernel_rfl) (fun _ _ _ h => h) (Or.inl ⟨by rfl, ?_⟩) (by assumption) ?_
  rotate_left
  · intro w hSw
    go_simp
    try with_reducible rfl
  simp only [Act.put, List.getElem_toArray, List.getElem_cons_zero, List.getElem_cons_succ, List.setIfInBounds_toArray, List.set_cons_zero, List.set_cons_succ]
  refine wpAnyH_ready (rs := [17]) (by kernel_rfl) (by simp) ?_
  refine AllReadyH.cons rfl (fun K hK => ?_) AllReadyH.nil
  go_simp
  refine (C5.out _ (HO.out.up hHeld.1 hHeld.1.size) (HL2.out.up hHeld.1 hHeld.1.size)).mono ?_
  rintro e w9 ⟨rfl, bb⟩
  refine hK.out _ _ (one_keep hHeld bb) (fun hHeld => ?_)
  clear hK K C5
  refine wpAnyH_take (i := 18) (v := ?_) rfl (by kernel_rfl) (by kernel_rfl) (by kernel_rfl) (fun _ _ _ h => h) (Or.inl ⟨by rfl, ?_⟩) (by assumption) ?_
  rotate_left
  · intro w hSw
    go_simp
    try with_reducible rfl
  simp only [Act.put, List.getElem_toArray, List.getElem_cons_zero, List.getElem_cons_succ, List.setIfInBounds_toArray, List.set_cons_zero, List.set_cons_succ]
  refine wpAnyH_take (i := 19) (v := ?_) rfl (by kernel_rfl) (by kernel_rfl) (by kernel_rfl) (fun _ _ _ h => h) (Or.inl ⟨by rfl, ?_⟩) (by assumption) ?_
  rotate_left
  · intro w hSw
    go_simp
    try with_reducible rfl
  simp only [Act.put, List.getElem_toArray, List.getElem_cons_zero, List.getElem_cons_succ, List.setIfInBounds_toArray, List.set_cons_zero, List.set_cons_succ]
  refine wpAnyH_done (by kernel_rfl) ?_ _
  go_wp2
  go_ret
  exact ⟨rfl, bthen b02 hHeld.1⟩

end Go.Proofs.Ytidajlnaehhkkaa

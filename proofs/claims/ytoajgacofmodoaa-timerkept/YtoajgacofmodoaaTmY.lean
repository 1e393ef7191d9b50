/-
  step of the statements.
-/
import Derived.Test.YtoajgacofmodoaaTmX
namespace Go.Proofs.Ytoajgacofmodoaa
open Go.RowKit
set_option linter.unusedVariables false

/-- What a step makes of the alarms. -/
def stepL (kd o l k9 z : Int) (L : List Alm) : List Alm := if kd = 0 then setA (o, l, k9) z L else if kd = 1 then wo (o, l, k9) L else L
theorem stepL_len (kd o l k9 z : Int) (L : List Alm) : (stepL kd o l k9 z L).length ≤ L.length + 1 := by
  unfold stepL
  split
  · exact setA_len _ _ _
  · split
    · have := wo_le (o, l, k9) L; omega
    · omega
theorem keepsT {w w' : World} {bt : Nat} (k : Keeps (fun x => x = bt) w w') (pd : Nat) : Keeps (OnP bt pd) w w' := k.mono (fun _ _ e => .inl e)
theorem keepsD {w w' : World} {pd : Nat} (k : Keeps (fun x => x = pd) w w') (bt : Nat) : Keeps (OnP bt pd) w w' := k.mono (fun _ _ e => .inr e)
/-- The code's timer turned, then the document's. -/
theorem Pr.both {w w1 w2 : World} {pt bt pd : Nat} {L M : List Alm} (h : Pr w pt bt pd L) (t : Tim w1 pt bt M) (k : Keeps (fun x => x = bt) w w1) (d : DTm w2 pd M) (k2 : Keeps (fun x => x = pd) w1 w2) : Pr w2 pt bt pd M :=
  ⟨t.keep k2 (fun e => h.ne.1 e) (fun e => h.ne.2.1 e), d⟩
theorem Pr.mid {w w1 : World} {pt bt pd : Nat} {L : List Alm} (h : Pr w pt bt pd L) (k : Keeps (fun x => x = bt) w w1) : DTm w1 pd L :=
  h.d.keep k (fun e => h.ne.2.1 e.symm) (fun i cs hi e => h.t.far _ i cs hi e)

set_option maxHeartbeats 6400000 in
set_option maxRecDepth 100000 in
theorem step0_any {w : World} {pt bt pd : Nat} {L : List Alm} (kd o l k9 z sp : Int) (sc : Bool) (h : Pr w pt bt pd L) (hwf : wfN (o, l, k9)) (hl : L.length ≤ 800000) (hk : kd = 0) :
    Calls Try.prog 14 #[.agg #[.pointer (some ⟨pt, 0, none⟩), .pointer (some ⟨pd, 0, none⟩)], .agg #[.int .i64 kd, .int .i64 o, .int .i64 l, .int .i64 k9, .int .i64 z, .int .i64 sp, .bool sc]] w fun e w' => e = .returned (.bool true) ∧ Pr w' pt bt pd (stepL kd o l k9 z L) ∧ Keeps (OnP bt pd) w w' := by
  have B0 := aside (bthen (bnew w (.cells #[.pointer (some ⟨pt, 0, none⟩), .pointer (some ⟨pd, 0, none⟩)] 40)) (bnew _ (.cells #[.int .i64 kd, .int .i64 o, .int .i64 l, .int .i64 k9, .int .i64 z, .int .i64 sp, .bool sc] 43)))
  obtain ⟨V, hV⟩ : ∃ V, (w.alloc (.cells #[.pointer (some ⟨pt, 0, none⟩), .pointer (some ⟨pd, 0, none⟩)] 40)).alloc (.cells #[.int .i64 kd, .int .i64 o, .int .i64 l, .int .i64 k9, .int .i64 z, .int .i64 sp, .bool sc] 43) = V := ⟨_, rfl⟩
  obtain ⟨q, hq⟩ : ∃ q, w.heap.size = q := ⟨_, rfl⟩
  have KK := aside (show V.heap[q]? = some (.cells #[.pointer (some ⟨pt, 0, none⟩), .pointer (some ⟨pd, 0, none⟩)] 40 (0, 0)) ∧ V.heap[q + 1]? = some (.cells #[.int .i64 kd, .int .i64 o, .int .i64 l, .int .i64 k9, .int .i64 z, .int .i64 sp, .bool sc] 43 (0, 0)) from by
    have e1 := heap_alloc_new (w.alloc (.cells #[.pointer (some ⟨pt, 0, none⟩), .pointer (some ⟨pd, 0, none⟩)] 40)) (.cells #[.int .i64 kd, .int .i64 o, .int .i64 l, .int .i64 k9, .int .i64 z, .int .i64 sp, .bool sc] 43)
    rw [World.size_alloc] at e1
    rw [← hV, ← hq]
    exact ⟨blk_on (heap_alloc_new w _) (bnew _ _), e1⟩)
  rw [hV] at B0
  have HP := aside (h.below B0.out)
  have LT := aside h.lt
  have HQQ := aside (show w.heap.size = q ∧ q + 1 = q + 1 from ⟨hq, rfl⟩)
  have HWF := aside hwf
  have HL := aside hl
  have SX := aside (fun W (kk : Keeps (OnP bt pd) V W) => (show (W.cell? ⟨q, 0, none⟩ = some (.pointer (some ⟨pt, 0, none⟩)) ∧ W.cell? ⟨q, 1, none⟩ = some (.pointer (some ⟨pd, 0, none⟩))) ∧ (W.cell? ⟨q + 1, 0, none⟩ = some (.int .i64 kd) ∧ W.cell? ⟨q + 1, 1, none⟩ = some (.int .i64 o) ∧ W.cell? ⟨q + 1, 2, none⟩ = some (.int .i64 l) ∧ W.cell? ⟨q + 1, 3, none⟩ = some (.int .i64 k9) ∧ W.cell? ⟨q + 1, 4, none⟩ = some (.int .i64 z) ∧ W.cell? ⟨q + 1, 5, none⟩ = some (.int .i64 sp) ∧ W.cell? ⟨q + 1, 6, none⟩ = some (.bool sc)) from by
    have nq : ¬ OnP bt pd q := fun e => by have h1 := LT.out; have h2 := HQQ.out; rcases e with e | e <;> omega
    have nq2 : ¬ OnP bt pd (q + 1) := fun e => by have h1 := LT.out; have h2 := HQQ.out; rcases e with e | e <;> omega
    have k0 := blk_keep KK.out.1 kk nq
    have k1 := blk_keep KK.out.2 kk nq2
    exact ⟨by simp [World.cell?, k0], by simp [World.cell?, k1]⟩))
  obtain ⟨⟨z0, z1⟩, y0, y1, y2, y3, y4, y5, y6⟩ := SX.out _ (Keeps.refl _ V)
  clear h hwf hl
  subst hk
  go_enter Try.func14, Try.ntmps14
  go_wp2_with fail
  refine wp_region_held_drew (S := fun W => ((W.cell? ⟨q, 0, none⟩ = some (.pointer (some ⟨pt, 0, none⟩)) ∧ W.cell? ⟨q, 1, none⟩ = some (.pointer (some ⟨pd, 0, none⟩))) ∧ (W.cell? ⟨q + 1, 0, none⟩ = some (.int .i64 0) ∧ W.cell? ⟨q + 1, 1, none⟩ = some (.int .i64 o) ∧ W.cell? ⟨q + 1, 2, none⟩ = some (.int .i64 l) ∧ W.cell? ⟨q + 1, 3, none⟩ = some (.int .i64 k9) ∧ W.cell? ⟨q + 1, 4, none⟩ = some (.int .i64 z) ∧ W.cell? ⟨q + 1, 5, none⟩ = some (.int .i64 sp) ∧ W.cell? ⟨q + 1, 6, none⟩ = some (.bool sc))) ∧ Hid (Keeps (OnP bt pd) V W)) (by kernel_rfl) ⟨SX.out _ (Keeps.refl _ V).drew, aside (Keeps.refl _ V).drew⟩ (fun hHeld => ?_)
  refine wpAnyH_take (i := 0) (v := ?_) rfl (by kernel_rfl) (by kernel_rfl) (by kernel_rfl) (fun _ _ _ h => h) (Or.inl ⟨by rfl, ?_⟩) (by assumption) ?_
  rotate_left
  · intro w hSw
    go_simp
    try with_reducible rfl
  simp only [Act.put, List.getElem_toArray, List.getElem_cons_zero, List.setIfInBounds_toArray, List.set_cons_zero, List.set_cons_succ]
  refine wpAnyH_take (i := 1) (v := ?_) rfl (by kernel_rfl) (by kernel_rfl) (by kernel_rfl) (fun _ _ _ h => h) (Or.inl ⟨by rfl, ?_⟩) (by assumption) ?_
  rotate_left
  · intro w hSw
    go_simp
    try with_reducible rfl
  simp only [Act.put, List.getElem_toArray, List.getElem_cons_zero, List.getElem_cons_succ, List.setIfInBounds_toArray, List.set_cons_zero, List.set_cons_succ]
  refine wpAnyH_take (i := 2) (v := ?_) rfl (by kernel_rfl) (by kernel_rfl) (by kernel_rfl) (fun _ _ _ h => h) (Or.inl ⟨by rfl, ?_⟩) (by assumption) ?_
  rotate_left
  · intro w hSw
    go_simp
    try with_reducible rfl
  simp only [Act.put, List.getElem_toArray, List.getElem_cons_zero, List.getElem_cons_succ, List.setIfInBounds_toArray, List.set_cons_zero, List.set_cons_succ]
  refine wpAnyH_take (i := 3) (v := ?_) rfl (by kernel_rfl) (by kernel_rfl) (by kernel_rfl) (fun _ _ _ h => h) (Or.inl ⟨by rfl, ?_⟩) (by assumption) ?_
  rotate_left
  · intro w hSw
    go_simp
    try with_reducible rfl
  simp only [Act.put, List.getElem_toArray, List.getElem_cons_zero, List.getElem_cons_succ, List.setIfInBounds_toArray, List.set_cons_zero, List.set_cons_succ]
  refine wpAnyH_take (i := 4) (v := ?_) rfl (by kernel_rfl) (by kernel_rfl) (by kernel_rfl) (fun _ _ _ h => h) (Or.inl ⟨by rfl, ?_⟩) (by assumption) ?_
  rotate_left
  · intro w hSw
    go_simp
    try with_reducible rfl
  simp only [Act.put, List.getElem_toArray, List.getElem_cons_zero, List.getElem_cons_succ, List.setIfInBounds_toArray, List.set_cons_zero, List.set_cons_succ]
  refine wpAnyH_take (i := 5) (v := ?_) rfl (by kernel_rfl) (by kernel_rfl) (by kernel_rfl) (fun _ _ _ h => h) (Or.inl ⟨by rfl, ?_⟩) (by assumption) ?_
  rotate_left
  · intro w hSw
    go_simp
    try with_reducible rfl
  simp only [Act.put, List.getElem_toArray, List.getElem_cons_zero, List.getElem_cons_succ, List.setIfInBounds_toArray, List.set_cons_zero, List.set_cons_succ]
  refine wpAnyH_take (i := 7) (v := ?_) rfl (by kernel_rfl) (by kernel_rfl) (by kernel_rfl) (fun _ _ _ h => h) (Or.inl ⟨by rfl, ?_⟩) (by assumption) ?_
  rotate_left
  · intro w hSw
    go_simp
    try with_reducible rfl
  simp only [Act.put, List.getElem_toArray, List.getElem_cons_zero, List.getElem_cons_succ, List.setIfInBounds_toArray, List.set_cons_zero, List.set_cons_succ]
  refine wpAnyH_take (i := 8) (v := ?_) rfl (by kernel_rfl) (by kernel_rfl) (by kernel_rfl) (fun _ _ _ h => h) (Or.inl ⟨by rfl, ?_⟩) (by assumption) ?_
  rotate_left
  · intro w hSw
    go_simp
    try with_reducible rfl
  simp only [Act.put, List.getElem_toArray, List.getElem_cons_zero, List.getElem_cons_succ, List.setIfInBounds_toArray, List.set_cons_zero, List.set_cons_succ]
  refine wpAnyH_take (i := 9) (v := ?_) rfl (by kernel_rfl) (by kernel_rfl) (by kernel_rfl) (fun _ _ _ h => h) (Or.inl ⟨by rfl, ?_⟩) (by assumption) ?_
  rotate_left
  · intro w hSw
    go_simp
    try with_reducible rfl
  simp only [Act.put, List.getElem_toArray, List.getElem_cons_zero, List.getElem_cons_succ, List.setIfInBounds_toArray, List.set_cons_zero, List.set_cons_succ]
  refine wpAnyH_take (i := 10) (v := ?_) rfl (by kernel_rfl) (by kernel_rfl) (by kernel_rfl) (fun _ _ _ h => h) (Or.inl ⟨by rfl, ?_⟩) (by assumption) ?_
  rotate_left
  · intro w hSw
    go_simp
    try with_reducible rfl
  simp only [Act.put, List.getElem_toArray, List.getElem_cons_zero, List.getElem_cons_succ, List.setIfInBounds_toArray, List.set_cons_zero, List.set_cons_succ]
  refine wpAnyH_take (i := 11) (v := ?_) rfl (by kernel_rfl) (by kernel_rfl) (by kernel_rfl) (fun _ _ _ h => h) (Or.inl ⟨by rfl, ?_⟩) (by assumption) ?_
  rotate_left
  · intro w hSw
    go_simp
    try with_reducible rfl
  simp only [Act.put, List.getElem_toArray, List.getElem_cons_zero, List.getElem_cons_succ, List.setIfInBounds_toArray, List.set_cons_zero, List.set_cons_succ]
  refine wpAnyH_take (i := 12) (v := ?_) rfl (by kernel_rfl) (by kernel_rfl) (by kernel_rfl) (fun _ _ _ h => h) (Or.inl ⟨by rfl, ?_⟩) (by assumption) ?_
  rotate_left
  · intro w hSw
    go_simp
    try with_reducible rfl
  simp only [Act.put, List.getElem_toArray, List.getElem_cons_zero, List.getElem_cons_succ, List.setIfInBounds_toArray, List.set_cons_zero, List.set_cons_succ]
  refine wpAnyH_ready (rs := [6]) (by kernel_rfl) (by simp) ?_
  refine AllReadyH.cons rfl (fun K hK => ?_) AllReadyH.nil
  go_simp
  refine (tset_any o l k9 z (w := V.drew) HP.out.t HWF.out (by have := HL.out; omega)).mono ?_
  rintro e w9 ⟨rfl, t6, k6⟩
  refine hK.out _ _ (⟨SX.out _ ((Keeps.refl _ V).drew.trans (keepsT k6 pd)), aside ((Keeps.refl _ V).drew.trans (keepsT k6 pd))⟩) (fun hHeld => ?_)
  clear hK K 
  have D6 := aside ((HP.out.below (Below.refl _ V).drew).mid k6)
  refine wpAnyH_ready (rs := [13]) (by kernel_rfl) (by simp) ?_
  refine AllReadyH.cons rfl (fun K hK => ?_) AllReadyH.nil
  go_simp
  refine (rsetT_any o l k9 z D6.out (by have := HL.out; omega)).mono ?_
  rintro e w10 ⟨rfl, d13, k13⟩
  refine hK.out _ _ (⟨SX.out _ (((Keeps.refl _ V).drew.trans (keepsT k6 pd)).trans (keepsD k13 bt)), aside (((Keeps.refl _ V).drew.trans (keepsT k6 pd)).trans (keepsD k13 bt))⟩) (fun hHeld => ?_)
  clear hK K 
  have PF := aside ((HP.out.below (Below.refl _ V).drew).both t6 k6 d13 k13)
  have KF := aside ((Keeps.of_below B0.out (OnP bt pd)).trans (((Keeps.refl _ V).drew.trans (keepsT k6 pd)).trans (keepsD k13 bt)))
  clear t6 k6 d13 k13 D6
  refine wpAnyH_take (i := 14) (v := ?_) rfl (by kernel_rfl) (by kernel_rfl) (by kernel_rfl) (fun _ _ _ h => h) (Or.inl ⟨by rfl, ?_⟩) (by assumption) ?_
  rotate_left
  · intro w hSw
    go_simp
    try with_reducible rfl
  simp only [Act.put, List.getElem_toArray, List.getElem_cons_zero, List.getElem_cons_succ, List.setIfInBounds_toArray, List.set_cons_zero, List.set_cons_succ]
  refine wpAnyH_take (i := 15) (v := ?_) rfl (by kernel_rfl) (by kernel_rfl) (by kernel_rfl) (fun _ _ _ h => h) (Or.inl ⟨by rfl, ?_⟩) (by assumption) ?_
  rotate_left
  · intro w hSw
    go_simp
    try with_reducible rfl
  simp only [Act.put, List.getElem_toArray, List.getElem_cons_zero, List.getElem_cons_succ, List.setIfInBounds_toArray, List.set_cons_zero, List.set_cons_succ]
  refine wpAnyH_done (by kernel_rfl) ?_ _
  clear hHeld SX
  go_wp2
  go_ret
  exact ⟨by simp, by unfold stepL; rw [if_pos rfl]; exact PF.out, KF.out⟩
set_option maxHeartbeats 6400000 in
set_option maxRecDepth 100000 in
theorem step1_any {w : World} {pt bt pd : Nat} {L : List Alm} (kd o l k9 z sp : Int) (sc : Bool) (h : Pr w pt bt pd L) (hwf : wfN (o, l, k9)) (hl : L.length ≤ 800000) (hk : kd = 1) :
    Calls Try.prog 14 #[.agg #[.pointer (some ⟨pt, 0, none⟩), .pointer (some ⟨pd, 0, none⟩)], .agg #[.int .i64 kd, .int .i64 o, .int .i64 l, .int .i64 k9, .int .i64 z, .int .i64 sp, .bool sc]] w fun e w' => e = .returned (.bool true) ∧ Pr w' pt bt pd (stepL kd o l k9 z L) ∧ Keeps (OnP bt pd) w w' := by
  have B0 := aside (bthen (bnew w (.cells #[.pointer (some ⟨pt, 0, none⟩), .pointer (some ⟨pd, 0, none⟩)] 40)) (bnew _ (.cells #[.int .i64 kd, .int .i64 o, .int .i64 l, .int .i64 k9, .int .i64 z, .int .i64 sp, .bool sc] 43)))
  obtain ⟨V, hV⟩ : ∃ V, (w.alloc (.cells #[.pointer (some ⟨pt, 0, none⟩), .pointer (some ⟨pd, 0, none⟩)] 40)).alloc (.cells #[.int .i64 kd, .int .i64 o, .int .i64 l, .int .i64 k9, .int .i64 z, .int .i64 sp, .bool sc] 43) = V := ⟨_, rfl⟩
  obtain ⟨q, hq⟩ : ∃ q, w.heap.size = q := ⟨_, rfl⟩
  have KK := aside (show V.heap[q]? = some (.cells #[.pointer (some ⟨pt, 0, none⟩), .pointer (some ⟨pd, 0, none⟩)] 40 (0, 0)) ∧ V.heap[q + 1]? = some (.cells #[.int .i64 kd, .int .i64 o, .int .i64 l, .int .i64 k9, .int .i64 z, .int .i64 sp, .bool sc] 43 (0, 0)) from by
    have e1 := heap_alloc_new (w.alloc (.cells #[.pointer (some ⟨pt, 0, none⟩), .pointer (some ⟨pd, 0, none⟩)] 40)) (.cells #[.int .i64 kd, .int .i64 o, .int .i64 l, .int .i64 k9, .int .i64 z, .int .i64 sp, .bool sc] 43)
    rw [World.size_alloc] at e1
    rw [← hV, ← hq]
    exact ⟨blk_on (heap_alloc_new w _) (bnew _ _), e1⟩)
  rw [hV] at B0
  have HP := aside (h.below B0.out)
  have LT := aside h.lt
  have HQQ := aside (show w.heap.size = q ∧ q + 1 = q + 1 from ⟨hq, rfl⟩)
  have HWF := aside hwf
  have HL := aside hl
  have SX := aside (fun W (kk : Keeps (OnP bt pd) V W) => (show (W.cell? ⟨q, 0, none⟩ = some (.pointer (some ⟨pt, 0, none⟩)) ∧ W.cell? ⟨q, 1, none⟩ = some (.pointer (some ⟨pd, 0, none⟩))) ∧ (W.cell? ⟨q + 1, 0, none⟩ = some (.int .i64 kd) ∧ W.cell? ⟨q + 1, 1, none⟩ = some (.int .i64 o) ∧ W.cell? ⟨q + 1, 2, none⟩ = some (.int .i64 l) ∧ W.cell? ⟨q + 1, 3, none⟩ = some (.int .i64 k9) ∧ W.cell? ⟨q + 1, 4, none⟩ = some (.int .i64 z) ∧ W.cell? ⟨q + 1, 5, none⟩ = some (.int .i64 sp) ∧ W.cell? ⟨q + 1, 6, none⟩ = some (.bool sc)) from by
    have nq : ¬ OnP bt pd q := fun e => by have h1 := LT.out; have h2 := HQQ.out; rcases e with e | e <;> omega
    have nq2 : ¬ OnP bt pd (q + 1) := fun e => by have h1 := LT.out; have h2 := HQQ.out; rcases e with e | e <;> omega
    have k0 := blk_keep KK.out.1 kk nq
    have k1 := blk_keep KK.out.2 kk nq2
    exact ⟨by simp [World.cell?, k0], by simp [World.cell?, k1]⟩))
  obtain ⟨⟨z0, z1⟩, y0, y1, y2, y3, y4, y5, y6⟩ := SX.out _ (Keeps.refl _ V)
  clear h hwf hl
  subst hk
  go_enter Try.func14, Try.ntmps14
  go_wp2_with fail
  refine wp_region_held_drew (S := fun W => ((W.cell? ⟨q, 0, none⟩ = some (.pointer (some ⟨pt, 0, none⟩)) ∧ W.cell? ⟨q, 1, none⟩ = some (.pointer (some ⟨pd, 0, none⟩))) ∧ (W.cell? ⟨q + 1, 0, none⟩ = some (.int .i64 1) ∧ W.cell? ⟨q + 1, 1, none⟩ = some (.int .i64 o) ∧ W.cell? ⟨q + 1, 2, none⟩ = some (.int .i64 l) ∧ W.cell? ⟨q + 1, 3, none⟩ = some (.int .i64 k9) ∧ W.cell? ⟨q + 1, 4, none⟩ = some (.int .i64 z) ∧ W.cell? ⟨q + 1, 5, none⟩ = some (.int .i64 sp) ∧ W.cell? ⟨q + 1, 6, none⟩ = some (.bool sc))) ∧ Hid (Keeps (OnP bt pd) V W)) (by kernel_rfl) ⟨SX.out _ (Keeps.refl _ V).drew, aside (Keeps.refl _ V).drew⟩ (fun hHeld => ?_)
  refine wpAnyH_take (i := 0) (v := ?_) rfl (by kernel_rfl) (by kernel_rfl) (by kernel_rfl) (fun _ _ _ h => h) (Or.inl ⟨by rfl, ?_⟩) (by assumption) ?_
  rotate_left
  · intro w hSw
    go_simp
    try with_reducible rfl
  simp only [Act.put, List.getElem_toArray, List.getElem_cons_zero, List.setIfInBounds_toArray, List.set_cons_zero, List.set_cons_succ]
  refine wpAnyH_take (i := 1) (v := ?_) rfl (by kernel_rfl) (by kernel_rfl) (by kernel_rfl) (fun _ _ _ h => h) (Or.inl ⟨by rfl, ?_⟩) (by assumption) ?_
  rotate_left
  · intro w hSw
    go_simp
    try with_reducible rfl
  simp only [Act.put, List.getElem_toArray, List.getElem_cons_zero, List.getElem_cons_succ, List.setIfInBounds_toArray, List.set_cons_zero, List.set_cons_succ]
  refine wpAnyH_take (i := 2) (v := ?_) rfl (by kernel_rfl) (by kernel_rfl) (by kernel_rfl) (fun _ _ _ h => h) (Or.inl ⟨by rfl, ?_⟩) (by assumption) ?_
  rotate_left
  · intro w hSw
    go_simp
    try with_reducible rfl
  simp only [Act.put, List.getElem_toArray, List.getElem_cons_zero, List.getElem_cons_succ, List.setIfInBounds_toArray, List.set_cons_zero, List.set_cons_succ]
  refine wpAnyH_take (i := 3) (v := ?_) rfl (by kernel_rfl) (by kernel_rfl) (by kernel_rfl) (fun _ _ _ h => h) (Or.inl ⟨by rfl, ?_⟩) (by assumption) ?_
  rotate_left
  · intro w hSw
    go_simp
    try with_reducible rfl
  simp only [Act.put, List.getElem_toArray, List.getElem_cons_zero, List.getElem_cons_succ, List.setIfInBounds_toArray, List.set_cons_zero, List.set_cons_succ]
  refine wpAnyH_take (i := 5) (v := ?_) rfl (by kernel_rfl) (by kernel_rfl) (by kernel_rfl) (fun _ _ _ h => h) (Or.inl ⟨by rfl, ?_⟩) (by assumption) ?_
  rotate_left
  · intro w hSw
    go_simp
    try with_reducible rfl
  simp only [Act.put, List.getElem_toArray, List.getElem_cons_zero, List.getElem_cons_succ, List.setIfInBounds_toArray, List.set_cons_zero, List.set_cons_succ]
  refine wpAnyH_take (i := 6) (v := ?_) rfl (by kernel_rfl) (by kernel_rfl) (by kernel_rfl) (fun _ _ _ h => h) (Or.inl ⟨by rfl, ?_⟩) (by assumption) ?_
  rotate_left
  · intro w hSw
    go_simp
    try with_reducible rfl
  simp only [Act.put, List.getElem_toArray, List.getElem_cons_zero, List.getElem_cons_succ, List.setIfInBounds_toArray, List.set_cons_zero, List.set_cons_succ]
  refine wpAnyH_take (i := 7) (v := ?_) rfl (by kernel_rfl) (by kernel_rfl) (by kernel_rfl) (fun _ _ _ h => h) (Or.inl ⟨by rfl, ?_⟩) (by assumption) ?_
  rotate_left
  · intro w hSw
    go_simp
    try with_reducible rfl
  simp only [Act.put, List.getElem_toArray, List.getElem_cons_zero, List.getElem_cons_succ, List.setIfInBounds_toArray, List.set_cons_zero, List.set_cons_succ]
  refine wpAnyH_take (i := 8) (v := ?_) rfl (by kernel_rfl) (by kernel_rfl) (by kernel_rfl) (fun _ _ _ h => h) (Or.inl ⟨by rfl, ?_⟩) (by assumption) ?_
  rotate_left
  · intro w hSw
    go_simp
    try with_reducible rfl
  simp only [Act.put, List.getElem_toArray, List.getElem_cons_zero, List.getElem_cons_succ, List.setIfInBounds_toArray, List.set_cons_zero, List.set_cons_succ]
  refine wpAnyH_ready (rs := [4]) (by kernel_rfl) (by simp) ?_
  refine AllReadyH.cons rfl (fun K hK => ?_) AllReadyH.nil
  go_simp
  refine (tdrop_any o l k9 (w := V.drew) HP.out.t HWF.out).mono ?_
  rintro e w9 ⟨rfl, t6, k6⟩
  refine hK.out _ _ (⟨SX.out _ ((Keeps.refl _ V).drew.trans (keepsT k6 pd)), aside ((Keeps.refl _ V).drew.trans (keepsT k6 pd))⟩) (fun hHeld => ?_)
  clear hK K 
  have D6 := aside ((HP.out.below (Below.refl _ V).drew).mid k6)
  refine wpAnyH_ready (rs := [9]) (by kernel_rfl) (by simp) ?_
  refine AllReadyH.cons rfl (fun K hK => ?_) AllReadyH.nil
  go_simp
  refine (rdropT_any o l k9 D6.out HP.out.t.2.1 (by have := HL.out; omega)).mono ?_
  rintro e w10 ⟨rfl, d13, k13⟩
  refine hK.out _ _ (⟨SX.out _ (((Keeps.refl _ V).drew.trans (keepsT k6 pd)).trans (keepsD k13 bt)), aside (((Keeps.refl _ V).drew.trans (keepsT k6 pd)).trans (keepsD k13 bt))⟩) (fun hHeld => ?_)
  clear hK K 
  have PF := aside ((HP.out.below (Below.refl _ V).drew).both t6 k6 d13 k13)
  have KF := aside ((Keeps.of_below B0.out (OnP bt pd)).trans (((Keeps.refl _ V).drew.trans (keepsT k6 pd)).trans (keepsD k13 bt)))
  clear t6 k6 d13 k13 D6
  refine wpAnyH_take (i := 10) (v := ?_) rfl (by kernel_rfl) (by kernel_rfl) (by kernel_rfl) (fun _ _ _ h => h) (Or.inl ⟨by rfl, ?_⟩) (by assumption) ?_
  rotate_left
  · intro w hSw
    go_simp
    try with_reducible rfl
  simp only [Act.put, List.getElem_toArray, List.getElem_cons_zero, List.getElem_cons_succ, List.setIfInBounds_toArray, List.set_cons_zero, List.set_cons_succ]
  refine wpAnyH_take (i := 11) (v := ?_) rfl (by kernel_rfl) (by kernel_rfl) (by kernel_rfl) (fun _ _ _ h => h) (Or.inl ⟨by rfl, ?_⟩) (by assumption) ?_
  rotate_left
  · intro w hSw
    go_simp
    try with_reducible rfl
  simp only [Act.put, List.getElem_toArray, List.getElem_cons_zero, List.getElem_cons_succ, List.setIfInBounds_toArray, List.set_cons_zero, List.set_cons_succ]
  refine wpAnyH_done (by kernel_rfl) ?_ _
  clear hHeld SX
  go_wp2
  go_ret
  exact ⟨by simp, by unfold stepL; rw [if_neg (by decide), if_pos rfl]; exact PF.out, KF.out⟩
set_option maxHeartbeats 6400000 in
set_option maxRecDepth 100000 in
theorem step2_any {w : World} {pt bt pd : Nat} {L : List Alm} (kd o l k9 z sp : Int) (sc : Bool) (h : Pr w pt bt pd L) (hwf : wfN (o, l, k9)) (hl : L.length ≤ 800000) (hk : kd = 2) :
    Calls Try.prog 14 #[.agg #[.pointer (some ⟨pt, 0, none⟩), .pointer (some ⟨pd, 0, none⟩)], .agg #[.int .i64 kd, .int .i64 o, .int .i64 l, .int .i64 k9, .int .i64 z, .int .i64 sp, .bool sc]] w fun e w' => e = .returned (.bool true) ∧ Pr w' pt bt pd (stepL kd o l k9 z L) ∧ Keeps (OnP bt pd) w w' := by
  have B0 := aside (bthen (bnew w (.cells #[.pointer (some ⟨pt, 0, none⟩), .pointer (some ⟨pd, 0, none⟩)] 40)) (bnew _ (.cells #[.int .i64 kd, .int .i64 o, .int .i64 l, .int .i64 k9, .int .i64 z, .int .i64 sp, .bool sc] 43)))
  obtain ⟨V, hV⟩ : ∃ V, (w.alloc (.cells #[.pointer (some ⟨pt, 0, none⟩), .pointer (some ⟨pd, 0, none⟩)] 40)).alloc (.cells #[.int .i64 kd, .int .i64 o, .int .i64 l, .int .i64 k9, .int .i64 z, .int .i64 sp, .bool sc] 43) = V := ⟨_, rfl⟩
  obtain ⟨q, hq⟩ : ∃ q, w.heap.size = q := ⟨_, rfl⟩
  have KK := aside (show V.heap[q]? = some (.cells #[.pointer (some ⟨pt, 0, none⟩), .pointer (some ⟨pd, 0, none⟩)] 40 (0, 0)) ∧ V.heap[q + 1]? = some (.cells #[.int .i64 kd, .int .i64 o, .int .i64 l, .int .i64 k9, .int .i64 z, .int .i64 sp, .bool sc] 43 (0, 0)) from by
    have e1 := heap_alloc_new (w.alloc (.cells #[.pointer (some ⟨pt, 0, none⟩), .pointer (some ⟨pd, 0, none⟩)] 40)) (.cells #[.int .i64 kd, .int .i64 o, .int .i64 l, .int .i64 k9, .int .i64 z, .int .i64 sp, .bool sc] 43)
    rw [World.size_alloc] at e1
    rw [← hV, ← hq]
    exact ⟨blk_on (heap_alloc_new w _) (bnew _ _), e1⟩)
  rw [hV] at B0
  have HP := aside (h.below B0.out)
  have LT := aside h.lt
  have HQQ := aside (show w.heap.size = q ∧ q + 1 = q + 1 from ⟨hq, rfl⟩)
  have HWF := aside hwf
  have HL := aside hl
  have SX := aside (fun W (kk : Keeps (OnP bt pd) V W) => (show (W.cell? ⟨q, 0, none⟩ = some (.pointer (some ⟨pt, 0, none⟩)) ∧ W.cell? ⟨q, 1, none⟩ = some (.pointer (some ⟨pd, 0, none⟩))) ∧ (W.cell? ⟨q + 1, 0, none⟩ = some (.int .i64 kd) ∧ W.cell? ⟨q + 1, 1, none⟩ = some (.int .i64 o) ∧ W.cell? ⟨q + 1, 2, none⟩ = some (.int .i64 l) ∧ W.cell? ⟨q + 1, 3, none⟩ = some (.int .i64 k9) ∧ W.cell? ⟨q + 1, 4, none⟩ = some (.int .i64 z) ∧ W.cell? ⟨q + 1, 5, none⟩ = some (.int .i64 sp) ∧ W.cell? ⟨q + 1, 6, none⟩ = some (.bool sc)) from by
    have nq : ¬ OnP bt pd q := fun e => by have h1 := LT.out; have h2 := HQQ.out; rcases e with e | e <;> omega
    have nq2 : ¬ OnP bt pd (q + 1) := fun e => by have h1 := LT.out; have h2 := HQQ.out; rcases e with e | e <;> omega
    have k0 := blk_keep KK.out.1 kk nq
    have k1 := blk_keep KK.out.2 kk nq2
    exact ⟨by simp [World.cell?, k0], by simp [World.cell?, k1]⟩))
  obtain ⟨⟨z0, z1⟩, y0, y1, y2, y3, y4, y5, y6⟩ := SX.out _ (Keeps.refl _ V)
  clear h hwf hl
  subst hk
  go_enter Try.func14, Try.ntmps14
  go_wp2_with fail
  refine (tat_any o l k9 HP.out.t HWF.out).mono ?_
  rintro e w3 ⟨rfl, b3⟩
  have B3 := aside b3
  obtain ⟨⟨z0, z1⟩, y0, y1, y2, y3, y4, y5, y6⟩ := SX.out _ (Keeps.of_below B3.out _)
  clear b3
  go_wp2_with fail
  refine (ratT_any o l k9 (HP.out.below B3.out).d HP.out.t.2.1).mono ?_
  rintro e w4 ⟨rfl, b4⟩
  have B4 := aside (bthen B3.out b4)
  obtain ⟨x9, hx9⟩ : ∃ x, (lookA (o, l, k9) L).getD 0 = x := ⟨_, rfl⟩
  obtain ⟨y9, hy9⟩ : ∃ y, (lookA (o, l, k9) L).isSome = y := ⟨_, rfl⟩
  rw [hx9, hy9]
  clear b4 hx9 hy9 SX
  go_wp2
  go_ret
  exact ⟨by simp, by unfold stepL; rw [if_neg (by decide), if_neg (by decide)]; exact HP.out.below B4.out, Keeps.of_below (bthen B0.out B4.out) _⟩
set_option maxHeartbeats 6400000 in
set_option maxRecDepth 100000 in
theorem step3_any {w : World} {pt bt pd : Nat} {L : List Alm} (kd o l k9 z sp : Int) (sc : Bool) (h : Pr w pt bt pd L) (hwf : wfN (o, l, k9)) (hl : L.length ≤ 800000) (hk : kd = 3) :
    Calls Try.prog 14 #[.agg #[.pointer (some ⟨pt, 0, none⟩), .pointer (some ⟨pd, 0, none⟩)], .agg #[.int .i64 kd, .int .i64 o, .int .i64 l, .int .i64 k9, .int .i64 z, .int .i64 sp, .bool sc]] w fun e w' => e = .returned (.bool true) ∧ Pr w' pt bt pd (stepL kd o l k9 z L) ∧ Keeps (OnP bt pd) w w' := by
  have B0 := aside (bthen (bnew w (.cells #[.pointer (some ⟨pt, 0, none⟩), .pointer (some ⟨pd, 0, none⟩)] 40)) (bnew _ (.cells #[.int .i64 kd, .int .i64 o, .int .i64 l, .int .i64 k9, .int .i64 z, .int .i64 sp, .bool sc] 43)))
  obtain ⟨V, hV⟩ : ∃ V, (w.alloc (.cells #[.pointer (some ⟨pt, 0, none⟩), .pointer (some ⟨pd, 0, none⟩)] 40)).alloc (.cells #[.int .i64 kd, .int .i64 o, .int .i64 l, .int .i64 k9, .int .i64 z, .int .i64 sp, .bool sc] 43) = V := ⟨_, rfl⟩
  obtain ⟨q, hq⟩ : ∃ q, w.heap.size = q := ⟨_, rfl⟩
  have KK := aside (show V.heap[q]? = some (.cells #[.pointer (some ⟨pt, 0, none⟩), .pointer (some ⟨pd, 0, none⟩)] 40 (0, 0)) ∧ V.heap[q + 1]? = some (.cells #[.int .i64 kd, .int .i64 o, .int .i64 l, .int .i64 k9, .int .i64 z, .int .i64 sp, .bool sc] 43 (0, 0)) from by
    have e1 := heap_alloc_new (w.alloc (.cells #[.pointer (some ⟨pt, 0, none⟩), .pointer (some ⟨pd, 0, none⟩)] 40)) (.cells #[.int .i64 kd, .int .i64 o, .int .i64 l, .int .i64 k9, .int .i64 z, .int .i64 sp, .bool sc] 43)
    rw [World.size_alloc] at e1
    rw [← hV, ← hq]
    exact ⟨blk_on (heap_alloc_new w _) (bnew _ _), e1⟩)
  rw [hV] at B0
  have HP := aside (h.below B0.out)
  have LT := aside h.lt
  have HQQ := aside (show w.heap.size = q ∧ q + 1 = q + 1 from ⟨hq, rfl⟩)
  have HWF := aside hwf
  have HL := aside hl
  have SX := aside (fun W (kk : Keeps (OnP bt pd) V W) => (show (W.cell? ⟨q, 0, none⟩ = some (.pointer (some ⟨pt, 0, none⟩)) ∧ W.cell? ⟨q, 1, none⟩ = some (.pointer (some ⟨pd, 0, none⟩))) ∧ (W.cell? ⟨q + 1, 0, none⟩ = some (.int .i64 kd) ∧ W.cell? ⟨q + 1, 1, none⟩ = some (.int .i64 o) ∧ W.cell? ⟨q + 1, 2, none⟩ = some (.int .i64 l) ∧ W.cell? ⟨q + 1, 3, none⟩ = some (.int .i64 k9) ∧ W.cell? ⟨q + 1, 4, none⟩ = some (.int .i64 z) ∧ W.cell? ⟨q + 1, 5, none⟩ = some (.int .i64 sp) ∧ W.cell? ⟨q + 1, 6, none⟩ = some (.bool sc)) from by
    have nq : ¬ OnP bt pd q := fun e => by have h1 := LT.out; have h2 := HQQ.out; rcases e with e | e <;> omega
    have nq2 : ¬ OnP bt pd (q + 1) := fun e => by have h1 := LT.out; have h2 := HQQ.out; rcases e with e | e <;> omega
    have k0 := blk_keep KK.out.1 kk nq
    have k1 := blk_keep KK.out.2 kk nq2
    exact ⟨by simp [World.cell?, k0], by simp [World.cell?, k1]⟩))
  obtain ⟨⟨z0, z1⟩, y0, y1, y2, y3, y4, y5, y6⟩ := SX.out _ (Keeps.refl _ V)
  clear h hwf hl
  subst hk
  go_enter Try.func14, Try.ntmps14
  go_wp2_with fail
  refine (same_anyT HP.out).mono ?_
  rintro e w3 ⟨rfl, b3⟩
  have B3 := aside b3
  clear b3 SX
  go_wp2
  go_ret
  exact ⟨rfl, by unfold stepL; rw [if_neg (by decide), if_neg (by decide)]; exact HP.out.below B3.out, Keeps.of_below (bthen B0.out B3.out) _⟩
set_option maxHeartbeats 6400000 in
set_option maxRecDepth 100000 in
theorem step4_any {w : World} {pt bt pd : Nat} {L : List Alm} (kd o l k9 z sp : Int) (sc : Bool) (h : Pr w pt bt pd L) (hwf : wfN (o, l, k9)) (hl : L.length ≤ 800000) (hk : kd = 4) :
    Calls Try.prog 14 #[.agg #[.pointer (some ⟨pt, 0, none⟩), .pointer (some ⟨pd, 0, none⟩)], .agg #[.int .i64 kd, .int .i64 o, .int .i64 l, .int .i64 k9, .int .i64 z, .int .i64 sp, .bool sc]] w fun e w' => e = .returned (.bool true) ∧ Pr w' pt bt pd (stepL kd o l k9 z L) ∧ Keeps (OnP bt pd) w w' := by
  have B0 := aside (bthen (bnew w (.cells #[.pointer (some ⟨pt, 0, none⟩), .pointer (some ⟨pd, 0, none⟩)] 40)) (bnew _ (.cells #[.int .i64 kd, .int .i64 o, .int .i64 l, .int .i64 k9, .int .i64 z, .int .i64 sp, .bool sc] 43)))
  obtain ⟨V, hV⟩ : ∃ V, (w.alloc (.cells #[.pointer (some ⟨pt, 0, none⟩), .pointer (some ⟨pd, 0, none⟩)] 40)).alloc (.cells #[.int .i64 kd, .int .i64 o, .int .i64 l, .int .i64 k9, .int .i64 z, .int .i64 sp, .bool sc] 43) = V := ⟨_, rfl⟩
  obtain ⟨q, hq⟩ : ∃ q, w.heap.size = q := ⟨_, rfl⟩
  have KK := aside (show V.heap[q]? = some (.cells #[.pointer (some ⟨pt, 0, none⟩), .pointer (some ⟨pd, 0, none⟩)] 40 (0, 0)) ∧ V.heap[q + 1]? = some (.cells #[.int .i64 kd, .int .i64 o, .int .i64 l, .int .i64 k9, .int .i64 z, .int .i64 sp, .bool sc] 43 (0, 0)) from by
    have e1 := heap_alloc_new (w.alloc (.cells #[.pointer (some ⟨pt, 0, none⟩), .pointer (some ⟨pd, 0, none⟩)] 40)) (.cells #[.int .i64 kd, .int .i64 o, .int .i64 l, .int .i64 k9, .int .i64 z, .int .i64 sp, .bool sc] 43)
    rw [World.size_alloc] at e1
    rw [← hV, ← hq]
    exact ⟨blk_on (heap_alloc_new w _) (bnew _ _), e1⟩)
  rw [hV] at B0
  have HP := aside (h.below B0.out)
  have LT := aside h.lt
  have HQQ := aside (show w.heap.size = q ∧ q + 1 = q + 1 from ⟨hq, rfl⟩)
  have HWF := aside hwf
  have HL := aside hl
  have SX := aside (fun W (kk : Keeps (OnP bt pd) V W) => (show (W.cell? ⟨q, 0, none⟩ = some (.pointer (some ⟨pt, 0, none⟩)) ∧ W.cell? ⟨q, 1, none⟩ = some (.pointer (some ⟨pd, 0, none⟩))) ∧ (W.cell? ⟨q + 1, 0, none⟩ = some (.int .i64 kd) ∧ W.cell? ⟨q + 1, 1, none⟩ = some (.int .i64 o) ∧ W.cell? ⟨q + 1, 2, none⟩ = some (.int .i64 l) ∧ W.cell? ⟨q + 1, 3, none⟩ = some (.int .i64 k9) ∧ W.cell? ⟨q + 1, 4, none⟩ = some (.int .i64 z) ∧ W.cell? ⟨q + 1, 5, none⟩ = some (.int .i64 sp) ∧ W.cell? ⟨q + 1, 6, none⟩ = some (.bool sc)) from by
    have nq : ¬ OnP bt pd q := fun e => by have h1 := LT.out; have h2 := HQQ.out; rcases e with e | e <;> omega
    have nq2 : ¬ OnP bt pd (q + 1) := fun e => by have h1 := LT.out; have h2 := HQQ.out; rcases e with e | e <;> omega
    have k0 := blk_keep KK.out.1 kk nq
    have k1 := blk_keep KK.out.2 kk nq2
    exact ⟨by simp [World.cell?, k0], by simp [World.cell?, k1]⟩))
  obtain ⟨⟨z0, z1⟩, y0, y1, y2, y3, y4, y5, y6⟩ := SX.out _ (Keeps.refl _ V)
  clear h hwf hl
  subst hk
  go_enter Try.func14, Try.ntmps14
  go_wp2_with fail
  refine wp_region_held_drew (S := fun W => ((W.cell? ⟨q, 0, none⟩ = some (.pointer (some ⟨pt, 0, none⟩)) ∧ W.cell? ⟨q, 1, none⟩ = some (.pointer (some ⟨pd, 0, none⟩))) ∧ (W.cell? ⟨q + 1, 0, none⟩ = some (.int .i64 4) ∧ W.cell? ⟨q + 1, 1, none⟩ = some (.int .i64 o) ∧ W.cell? ⟨q + 1, 2, none⟩ = some (.int .i64 l) ∧ W.cell? ⟨q + 1, 3, none⟩ = some (.int .i64 k9) ∧ W.cell? ⟨q + 1, 4, none⟩ = some (.int .i64 z) ∧ W.cell? ⟨q + 1, 5, none⟩ = some (.int .i64 sp) ∧ W.cell? ⟨q + 1, 6, none⟩ = some (.bool sc))) ∧ Hid (Below V.heap.size V W)) (by kernel_rfl) ⟨SX.out _ (Keeps.refl _ V).drew, aside (Below.refl _ V).drew⟩ (fun hHeld => ?_)
  refine wpAnyH_take (i := 0) (v := ?_) rfl (by kernel_rfl) (by kernel_rfl) (by kernel_rfl) (fun _ _ _ h => h) (Or.inl ⟨by rfl, ?_⟩) (by assumption) ?_
  rotate_left
  · intro w hSw
    go_simp
    try with_reducible rfl
  simp only [Act.put, List.getElem_toArray, List.getElem_cons_zero, List.setIfInBounds_toArray, List.set_cons_zero, List.set_cons_succ]
  refine wpAnyH_take (i := 1) (v := ?_) rfl (by kernel_rfl) (by kernel_rfl) (by kernel_rfl) (fun _ _ _ h => h) (Or.inl ⟨by rfl, ?_⟩) (by assumption) ?_
  rotate_left
  · intro w hSw
    go_simp
    try with_reducible rfl
  simp only [Act.put, List.getElem_toArray, List.getElem_cons_zero, List.getElem_cons_succ, List.setIfInBounds_toArray, List.set_cons_zero, List.set_cons_succ]
  refine wpAnyH_take (i := 2) (v := ?_) rfl (by kernel_rfl) (by kernel_rfl) (by kernel_rfl) (fun _ _ _ h => h) (Or.inl ⟨by rfl, ?_⟩) (by assumption) ?_
  rotate_left
  · intro w hSw
    go_simp
    try with_reducible rfl
  simp only [Act.put, List.getElem_toArray, List.getElem_cons_zero, List.getElem_cons_succ, List.setIfInBounds_toArray, List.set_cons_zero, List.set_cons_succ]
  refine wpAnyH_take (i := 3) (v := ?_) rfl (by kernel_rfl) (by kernel_rfl) (by kernel_rfl) (fun _ _ _ h => h) (Or.inl ⟨by rfl, ?_⟩) (by assumption) ?_
  rotate_left
  · intro w hSw
    go_simp
    try with_reducible rfl
  simp only [Act.put, List.getElem_toArray, List.getElem_cons_zero, List.getElem_cons_succ, List.setIfInBounds_toArray, List.set_cons_zero, List.set_cons_succ]
  refine wpAnyH_take (i := 5) (v := ?_) rfl (by kernel_rfl) (by kernel_rfl) (by kernel_rfl) (fun _ _ _ h => h) (Or.inl ⟨by rfl, ?_⟩) (by assumption) ?_
  rotate_left
  · intro w hSw
    go_simp
    try with_reducible rfl
  simp only [Act.put, List.getElem_toArray, List.getElem_cons_zero, List.getElem_cons_succ, List.setIfInBounds_toArray, List.set_cons_zero, List.set_cons_succ]
  refine wpAnyH_take (i := 6) (v := ?_) rfl (by kernel_rfl) (by kernel_rfl) (by kernel_rfl) (fun _ _ _ h => h) (Or.inl ⟨by rfl, ?_⟩) (by assumption) ?_
  rotate_left
  · intro w hSw
    go_simp
    try with_reducible rfl
  simp only [Act.put, List.getElem_toArray, List.getElem_cons_zero, List.getElem_cons_succ, List.setIfInBounds_toArray, List.set_cons_zero, List.set_cons_succ]
  refine wpAnyH_take (i := 7) (v := ?_) rfl (by kernel_rfl) (by kernel_rfl) (by kernel_rfl) (fun _ _ _ h => h) (Or.inl ⟨by rfl, ?_⟩) (by assumption) ?_
  rotate_left
  · intro w hSw
    go_simp
    try with_reducible rfl
  simp only [Act.put, List.getElem_toArray, List.getElem_cons_zero, List.getElem_cons_succ, List.setIfInBounds_toArray, List.set_cons_zero, List.set_cons_succ]
  refine wpAnyH_take (i := 8) (v := ?_) rfl (by kernel_rfl) (by kernel_rfl) (by kernel_rfl) (fun _ _ _ h => h) (Or.inl ⟨by rfl, ?_⟩) (by assumption) ?_
  rotate_left
  · intro w hSw
    go_simp
    try with_reducible rfl
  simp only [Act.put, List.getElem_toArray, List.getElem_cons_zero, List.getElem_cons_succ, List.setIfInBounds_toArray, List.set_cons_zero, List.set_cons_succ]
  refine wpAnyH_take (i := 10) (v := ?_) rfl (by kernel_rfl) (by kernel_rfl) (by kernel_rfl) (fun _ _ _ h => h) (Or.inl ⟨by rfl, ?_⟩) (by assumption) ?_
  rotate_left
  · intro w hSw
    go_simp
    try with_reducible rfl
  simp only [Act.put, List.getElem_toArray, List.getElem_cons_zero, List.getElem_cons_succ, List.setIfInBounds_toArray, List.set_cons_zero, List.set_cons_succ]
  refine wpAnyH_take (i := 11) (v := ?_) rfl (by kernel_rfl) (by kernel_rfl) (by kernel_rfl) (fun _ _ _ h => h) (Or.inl ⟨by rfl, ?_⟩) (by assumption) ?_
  rotate_left
  · intro w hSw
    go_simp
    try with_reducible rfl
  simp only [Act.put, List.getElem_toArray, List.getElem_cons_zero, List.getElem_cons_succ, List.setIfInBounds_toArray, List.set_cons_zero, List.set_cons_succ]
  refine wpAnyH_ready (rs := [4]) (by kernel_rfl) (by simp) ?_
  refine AllReadyH.cons rfl (fun K hK => ?_) AllReadyH.nil
  go_simp
  refine (due_any z (w := V.drew) HP.out.t (by have := HL.out; omega)).mono ?_
  rintro e w9 ⟨dd, da, dc, rfl, hbx, hal, b6⟩
  refine hK.out _ _ (⟨SX.out _ (Keeps.of_below (bthen (Below.refl _ V).drew b6) _), aside (bthen (Below.refl _ V).drew b6)⟩) (fun hHeld => ?_)
  clear hK K 
  have D6 := aside (show DD dd da (dueL z L).length dc (dueL z L) w9 from ⟨hbx, hal⟩)
  have B6 := aside (bthen (Below.refl _ V).drew b6)
  clear hbx hal b6
  refine wpAnyH_ready (rs := [9]) (by kernel_rfl) (by simp) ?_
  refine AllReadyH.cons rfl (fun K hK => ?_) AllReadyH.nil
  go_simp
  refine (rdueT_any z (HP.out.below B6.out).d (by have := HL.out; omega)).mono ?_
  rintro e w10 ⟨v9, rfl, own9, b9⟩
  refine hK.out _ _ (⟨SX.out _ (Keeps.of_below (bthen B6.out b9) _), aside (bthen B6.out b9)⟩) (fun hHeld => ?_)
  clear hK K 
  have A9 := aside (al_in own9)
  obtain ⟨wa, wc, rfl, hain⟩ := A9.out
  have HAIN := aside hain
  have D9 := aside (D6.out.keep b9)
  have B9 := aside (bthen B6.out b9)
  have LD := aside (show (dueL z L).length ≤ 1000000 from by have := dueL_le z L; have := HL.out; omega)
  clear own9 b9 hain A9
  refine wpAnyH_ready (rs := [12]) (by kernel_rfl) (by simp) ?_
  refine AllReadyH.cons rfl (fun K hK => ?_) AllReadyH.nil
  go_simp
  refine (goes_any sp D9.out HAIN.out LD.out).mono ?_
  rintro e w11 ⟨rfl, b12⟩
  refine hK.out _ _ (⟨SX.out _ (Keeps.of_below (bthen B9.out b12) _), aside (bthen B9.out b12)⟩) (fun hHeld => ?_)
  clear hK K 
  have B12 := aside (bthen B9.out b12)
  clear b12
  refine wpAnyH_take (i := 13) (v := ?_) rfl (by kernel_rfl) (by kernel_rfl) (by kernel_rfl) (fun _ _ _ h => h) (Or.inl ⟨by rfl, ?_⟩) (by assumption) ?_
  rotate_left
  · intro w hSw
    go_simp
    try with_reducible rfl
  simp only [Act.put, List.getElem_toArray, List.getElem_cons_zero, List.getElem_cons_succ, List.setIfInBounds_toArray, List.set_cons_zero, List.set_cons_succ]
  refine wpAnyH_done (by kernel_rfl) ?_ _
  clear hHeld SX
  go_wp2
  go_ret
  exact ⟨rfl, by unfold stepL; rw [if_neg (by decide), if_neg (by decide)]; exact HP.out.below B12.out, Keeps.of_below (bthen B0.out B12.out) _⟩
set_option maxHeartbeats 6400000 in
set_option maxRecDepth 100000 in
theorem step5_any {w : World} {pt bt pd : Nat} {L : List Alm} (kd o l k9 z sp : Int) (sc : Bool) (h : Pr w pt bt pd L) (hwf : wfN (o, l, k9)) (hl : L.length ≤ 800000) (hk : ¬ kd = 0 ∧ ¬ kd = 1 ∧ ¬ kd = 2 ∧ ¬ kd = 3 ∧ ¬ kd = 4) :
    Calls Try.prog 14 #[.agg #[.pointer (some ⟨pt, 0, none⟩), .pointer (some ⟨pd, 0, none⟩)], .agg #[.int .i64 kd, .int .i64 o, .int .i64 l, .int .i64 k9, .int .i64 z, .int .i64 sp, .bool sc]] w fun e w' => e = .returned (.bool true) ∧ Pr w' pt bt pd (stepL kd o l k9 z L) ∧ Keeps (OnP bt pd) w w' := by
  have B0 := aside (bthen (bnew w (.cells #[.pointer (some ⟨pt, 0, none⟩), .pointer (some ⟨pd, 0, none⟩)] 40)) (bnew _ (.cells #[.int .i64 kd, .int .i64 o, .int .i64 l, .int .i64 k9, .int .i64 z, .int .i64 sp, .bool sc] 43)))
  obtain ⟨V, hV⟩ : ∃ V, (w.alloc (.cells #[.pointer (some ⟨pt, 0, none⟩), .pointer (some ⟨pd, 0, none⟩)] 40)).alloc (.cells #[.int .i64 kd, .int .i64 o, .int .i64 l, .int .i64 k9, .int .i64 z, .int .i64 sp, .bool sc] 43) = V := ⟨_, rfl⟩
  obtain ⟨q, hq⟩ : ∃ q, w.heap.size = q := ⟨_, rfl⟩
  have KK := aside (show V.heap[q]? = some (.cells #[.pointer (some ⟨pt, 0, none⟩), .pointer (some ⟨pd, 0, none⟩)] 40 (0, 0)) ∧ V.heap[q + 1]? = some (.cells #[.int .i64 kd, .int .i64 o, .int .i64 l, .int .i64 k9, .int .i64 z, .int .i64 sp, .bool sc] 43 (0, 0)) from by
    have e1 := heap_alloc_new (w.alloc (.cells #[.pointer (some ⟨pt, 0, none⟩), .pointer (some ⟨pd, 0, none⟩)] 40)) (.cells #[.int .i64 kd, .int .i64 o, .int .i64 l, .int .i64 k9, .int .i64 z, .int .i64 sp, .bool sc] 43)
    rw [World.size_alloc] at e1
    rw [← hV, ← hq]
    exact ⟨blk_on (heap_alloc_new w _) (bnew _ _), e1⟩)
  rw [hV] at B0
  have HP := aside (h.below B0.out)
  have LT := aside h.lt
  have HQQ := aside (show w.heap.size = q ∧ q + 1 = q + 1 from ⟨hq, rfl⟩)
  have HWF := aside hwf
  have HL := aside hl
  have SX := aside (fun W (kk : Keeps (OnP bt pd) V W) => (show (W.cell? ⟨q, 0, none⟩ = some (.pointer (some ⟨pt, 0, none⟩)) ∧ W.cell? ⟨q, 1, none⟩ = some (.pointer (some ⟨pd, 0, none⟩))) ∧ (W.cell? ⟨q + 1, 0, none⟩ = some (.int .i64 kd) ∧ W.cell? ⟨q + 1, 1, none⟩ = some (.int .i64 o) ∧ W.cell? ⟨q + 1, 2, none⟩ = some (.int .i64 l) ∧ W.cell? ⟨q + 1, 3, none⟩ = some (.int .i64 k9) ∧ W.cell? ⟨q + 1, 4, none⟩ = some (.int .i64 z) ∧ W.cell? ⟨q + 1, 5, none⟩ = some (.int .i64 sp) ∧ W.cell? ⟨q + 1, 6, none⟩ = some (.bool sc)) from by
    have nq : ¬ OnP bt pd q := fun e => by have h1 := LT.out; have h2 := HQQ.out; rcases e with e | e <;> omega
    have nq2 : ¬ OnP bt pd (q + 1) := fun e => by have h1 := LT.out; have h2 := HQQ.out; rcases e with e | e <;> omega
    have k0 := blk_keep KK.out.1 kk nq
    have k1 := blk_keep KK.out.2 kk nq2
    exact ⟨by simp [World.cell?, k0], by simp [World.cell?, k1]⟩))
  obtain ⟨⟨z0, z1⟩, y0, y1, y2, y3, y4, y5, y6⟩ := SX.out _ (Keeps.refl _ V)
  clear h hwf hl
  obtain ⟨k0, k1, k2, k3, k4⟩ := hk
  have e0 : (kd == 0) = false := by simpa using k0
  have e1 : (kd == 1) = false := by simpa using k1
  have e2 : (kd == 2) = false := by simpa using k2
  have e3 : (kd == 3) = false := by simpa using k3
  have e4 : (kd == 4) = false := by simpa using k4
  clear SX
  go_enter Try.func14, Try.ntmps14
  go_wp2
  go_ret
  try rw [hV]
  exact ⟨rfl, by unfold stepL; rw [if_neg k0, if_neg k1]; exact HP.out, Keeps.of_below B0.out _⟩
theorem step_any {w : World} {pt bt pd : Nat} {L : List Alm} (kd o l k9 z sp : Int) (sc : Bool) (h : Pr w pt bt pd L) (hwf : wfN (o, l, k9)) (hl : L.length ≤ 800000) : Calls Try.prog 14 #[.agg #[.pointer (some ⟨pt, 0, none⟩), .pointer (some ⟨pd, 0, none⟩)], .agg #[.int .i64 kd, .int .i64 o, .int .i64 l, .int .i64 k9, .int .i64 z, .int .i64 sp, .bool sc]] w fun e w' => e = .returned (.bool true) ∧ Pr w' pt bt pd (stepL kd o l k9 z L) ∧ Keeps (OnP bt pd) w w' := by
  by_cases k0 : kd = 0
  · exact step0_any kd o l k9 z sp sc h hwf hl k0
  by_cases k1 : kd = 1
  · exact step1_any kd o l k9 z sp sc h hwf hl k1
  by_cases k2 : kd = 2
  · exact step2_any kd o l k9 z sp sc h hwf hl k2
  by_cases k3 : kd = 3
  · exact step3_any kd o l k9 z sp sc h hwf hl k3
  by_cases k4 : kd = 4
  · exact step4_any kd o l k9 z sp sc h hwf hl k4
  exact step5_any kd o l k9 z sp sc h hwf hl ⟨k0, k1, k2, k3, k4⟩

end Go.Proofs.Ytoajgacofmodoaa

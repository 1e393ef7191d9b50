/-
  The code's new desk, a node's first life, a new node.
-/
import Derived.Test.YtldnmboenfaajaaGreatDoorBn3
import Derived.Test.YtldnmboenfaajaaGreatDoorBn2
namespace Go.Proofs.YtldnmboenfaajaaGreatDoor
open Go.RowKit
set_option linter.unusedVariables false
/-- A new desk in memory. -/
def DeskAt (W : World) (k sb : Nat) (b l t r : Int) : Prop := ∃ m q, W.heap[k]? = some (.cells #[.pointer (some ⟨sb, 0, none⟩), .int .i64 b, .int .i64 l, .int .i64 t, .int .i64 r, .int .i64 1, .int .i64 0, .int .i64 0, .slice none 0 0, m, q, .int .i64 0, .int .i64 0, .int .i64 0, .int .i64 0, .int .i64 0, .int .i64 0, .int .i64 0, .int .i64 0, .int .i64 0, .int .i64 0, .int .i64 0, .int .i64 0, .int .i64 0, .int .i64 0, .int .i64 0, .int .i64 0, .int .i64 0, .int .i64 0, .int .i64 0, .int .i64 0, .int .i64 0, .int .i64 0, .int .i64 0, .int .i64 0] 100 (0, 0))
theorem DeskAt.on {W W' : World} {k sb : Nat} {b l t r : Int} (h : DeskAt W k sb b l t r) (bb : Below W.heap.size W W') : DeskAt W' k sb b l t r := by
  obtain ⟨m, q, h⟩ := h
  exact ⟨m, q, blk_on h bb⟩
/-- What New of a desk says. -/
def SesSay (z b l t r : Int) (sb : Nat) (e : Ending) (W : World) : Prop := (z ≠ 0 ∧ e = .returned (.tuple #[.pointer none, .int .i64 z])) ∨ (z = 0 ∧ ∃ d, e = .returned (.tuple #[.pointer (some ⟨d, 0, none⟩), .int .i64 0]) ∧ DeskAt W d sb b l t r)
/-- A node in its first life. -/
def LiveSay (z b l t r : Int) (sb nb : Nat) (W : World) : Prop := z = 0 → ∃ d, W.heap[nb]? = some (.cells #[.int .i64 b, .int .i64 l, .int .i64 t, .int .i64 r, .int .i64 1, .int .i64 0, .int .i64 0, .int .i64 0, .int .i64 0, .int .i64 0, .int .i64 0, .int .i64 0, .int .i64 0, .int .i64 0, .int .i64 0, .pointer (some ⟨sb, 0, none⟩), .pointer (some ⟨d, 0, none⟩), .slice none 0 0, .int .i64 0] 45 (0, 0)) ∧ DeskAt W d sb b l t r
theorem Sto.setN {w w' : World} {sb g tb : Nat} {nd ck : Int} {Ls : List En} (h : Sto w sb g tb nd ck Ls) {i : Nat} {cs : Array Value} {U : TypeId} (hi : w.heap[i]? = some (.cells cs U (0, 0))) (h1 : U ≠ 131) (h2 : U ≠ 161) (h3 : U ≠ 158) (h4 : U ≠ 169) (k : Keeps (fun x => x = i) w w') : Sto w' sb g tb nd ck Ls := by
  obtain ⟨T, n, hs, hH⟩ := h
  have hn := hs.not hi h1 h2 h3
  unfold Of at hn
  refine ⟨T, n, ⟨blk_keep hs.blk k (fun e => hn (.inl e.symm)), hs.cnt.keep k (fun b e => by cases e; exact fun e => hn (.inr (.inr e.symm))), hs.tree.keep k (fun e => hn (.inr (.inl e.symm))) (fun j cs' hj e => ?_)⟩, hH⟩
  subst e
  rw [hj] at hi
  simp only [Option.some.injEq, Obj.cells.injEq] at hi
  exact h4 hi.2.1.symm
set_option maxHeartbeats 3200000 in
set_option maxRecDepth 100000 in
theorem tnewN (w : World) : Calls Tryz.prog 36 #[] w fun e w' => ∃ p, e = .returned (.pointer (some ⟨p, 0, none⟩)) ∧ Below w.heap.size w w' := by
  have hmm := @run_makeMap Tryz.prog
  go_enter Tryz.func36, Tryz.ntmps36
  go_wp2
  go_ret
  exact ⟨_, rfl, bthen (bnew w (.map #[] 0)) (bnew _ _)⟩
set_option maxHeartbeats 3200000 in
set_option maxRecDepth 100000 in
theorem sesnew (sb : Nat) (b l t r z : Int) (hz : cfgE b l t r = z) (w : World) : Calls Tryz.prog 25 #[.pointer (some ⟨sb, 0, none⟩), .agg #[.int .i64 b, .int .i64 l, .int .i64 t, .int .i64 r], .int .i64 1] w fun e w' => Below w.heap.size w w' ∧ SesSay z b l t r sb e w' := by
  have hmm := @run_makeMap Tryz.prog
  have B0 := aside (bnew w (.cells #[.int .i64 b, .int .i64 l, .int .i64 t, .int .i64 r] 23))
  have K0 := aside (heap_alloc_new w (.cells #[.int .i64 b, .int .i64 l, .int .i64 t, .int .i64 r] 23))
  have C := aside (cfgC_any b l t r (w.alloc (.cells #[.int .i64 b, .int .i64 l, .int .i64 t, .int .i64 r] 23)))
  rw [hz] at C
  obtain ⟨q0, q1, q2, q3, -⟩ := quad K0.out
  clear hz
  go_enter Tryz.func25, Tryz.ntmps25
  go_wp2_with fail
  refine C.out.mono ?_
  rintro e w1 ⟨rfl, b1⟩
  clear q0 q1 q2 q3
  have B1 := aside (bthen B0.out b1)
  have K1 := aside (blk_on K0.out b1)
  clear b1 C K0 B0
  by_cases hq : z = 0
  · have HQ := aside hq
    subst hq
    have SX := aside (fun (W : World) (bb : Below w1.heap.size w1 W) => (show (fun W => (W.cell? ⟨w.heap.size, 0, none⟩ = some (.int .i64 b) ∧ W.cell? ⟨w.heap.size, 1, none⟩ = some (.int .i64 l) ∧ W.cell? ⟨w.heap.size, 2, none⟩ = some (.int .i64 t) ∧ W.cell? ⟨w.heap.size, 3, none⟩ = some (.int .i64 r)) ∧ Below w1.heap.size w1 W) W from by
      obtain ⟨y0, y1, y2, y3, -⟩ := quad (blk_on K1.out bb)
      exact ⟨⟨y0, y1, y2, y3⟩, bb⟩))
    go_wp2_with fail
    refine wp_region_held_drew (S := fun W => (W.cell? ⟨w.heap.size, 0, none⟩ = some (.int .i64 b) ∧ W.cell? ⟨w.heap.size, 1, none⟩ = some (.int .i64 l) ∧ W.cell? ⟨w.heap.size, 2, none⟩ = some (.int .i64 t) ∧ W.cell? ⟨w.heap.size, 3, none⟩ = some (.int .i64 r)) ∧ Below w1.heap.size w1 W) (by kernel_rfl) (SX.out _ (Below.refl _ w1).drew) (fun hHeld => ?_)
    refine wpAnyH_take (i := 0) (v := ?_) rfl (by kernel_rfl) (by kernel_rfl) (by kernel_rfl) (fun _ _ _ h => h) (Or.inl ⟨by rfl, ?_⟩) (by assumption) ?_
    rotate_left
    · intro w hSw
      go_simp
      try with_reducible rfl
    simp only [Act.put, List.getElem_toArray, List.getElem_cons_zero, List.setIfInBounds_toArray, List.set_cons_zero, List.set_cons_succ]
    refine wpAnyH_take (i := 1) (v := ?_) rfl (by kernel_rfl) (by kernel_rfl) (by kernel_rfl) (fun _ _ _ h => h) (Or.inl ⟨by rfl, ?_⟩) (by assumption) ?_
    rotate_left
    · intro w hSw
      go_simp
      try with_reducible rfl
    simp only [Act.put, List.getElem_toArray, List.getElem_cons_zero, List.getElem_cons_succ, List.setIfInBounds_toArray, List.set_cons_zero, List.set_cons_succ]
    refine wpAnyH_take (i := 2) (v := ?_) rfl (by kernel_rfl) (by kernel_rfl) (by kernel_rfl) (fun _ _ _ h => h) (Or.inl ⟨by rfl, ?_⟩) (by assumption) ?_
    rotate_left
    · intro w hSw
      go_simp
      try with_reducible rfl
    simp only [Act.put, List.getElem_toArray, List.getElem_cons_zero, List.getElem_cons_succ, List.setIfInBounds_toArray, List.set_cons_zero, List.set_cons_succ]
    refine wpAnyH_ready (rs := [3, 4]) (by kernel_rfl) (by simp) ?_
    refine AllReadyH.cons rfl (fun K hK => ?_) (AllReadyH.cons rfl (fun K hK => ?_) AllReadyH.nil)
    · go_simp
      refine hK.out _ _ (SX.out _ (by first | exact (bnew _ _).drew | exact (Below.refl _ _).drew.alloc (Nat.le_refl _) _)) (fun hHeld => ?_)
      clear hK K
      have HB8 := aside hHeld.2
      refine wpAnyH_ready (rs := [4]) (by kernel_rfl) (by simp) ?_
      refine AllReadyH.cons rfl (fun K hK => ?_) AllReadyH.nil
      go_simp
      refine (tnewN _).mono ?_
      rintro e w9 ⟨p9, rfl, bb⟩
      refine hK.out _ _ (SX.out _ (bthen HB8.out bb)) (fun hHeld => ?_)
      clear hK K bb
      refine wpAnyH_take (i := 5) (v := ?_) rfl (by kernel_rfl) (by kernel_rfl) (by kernel_rfl) (fun _ _ _ h => h) (Or.inl ⟨by rfl, ?_⟩) (by assumption) ?_
      rotate_left
      · intro w hSw
        go_simp
        try with_reducible rfl
      simp only [Act.put, List.getElem_toArray, List.getElem_cons_zero, List.getElem_cons_succ, List.setIfInBounds_toArray, List.set_cons_zero, List.set_cons_succ]
      have HB9 := aside hHeld.2
      refine wpAnyH_ready (rs := [6]) (by kernel_rfl) (by simp) ?_
      refine AllReadyH.cons rfl (fun K hK => ?_) AllReadyH.nil
      go_simp
      refine hK.out _ _ (SX.out _ (bthen HB9.out (bnew _ _))) (fun hHeld => ?_)
      clear hK K
      refine wpAnyH_take (i := 7) (v := ?_) rfl (by kernel_rfl) (by kernel_rfl) (by kernel_rfl) (fun _ _ _ h => h) (Or.inl ⟨by rfl, ?_⟩) (by assumption) ?_
      rotate_left
      · intro w hSw
        go_simp
        try with_reducible rfl
      simp only [Act.put, List.getElem_toArray, List.getElem_cons_zero, List.getElem_cons_succ, List.setIfInBounds_toArray, List.set_cons_zero, List.set_cons_succ]
      refine wpAnyH_take (i := 8) (v := ?_) rfl (by kernel_rfl) (by kernel_rfl) (by kernel_rfl) (fun _ _ _ h => h) (Or.inl ⟨by rfl, ?_⟩) (by assumption) ?_
      rotate_left
      · intro w hSw
        go_simp
        try with_reducible rfl
      simp only [Act.put, List.getElem_toArray, List.getElem_cons_zero, List.getElem_cons_succ, List.setIfInBounds_toArray, List.set_cons_zero, List.set_cons_succ]
      refine wpAnyH_done (by kernel_rfl) ?_ _
      go_wp2
      go_ret2
      exact ⟨bthen B1.out hHeld.2, .inr ⟨rfl, _, rfl, _, _, by first | exact heap_alloc_new _ _ | (have h9 := @heap_alloc_new (w9.alloc (.map #[] 0)); simp only [World.size_alloc] at h9; exact h9 _)⟩⟩
    · go_simp
      refine (tnewN _).mono ?_
      rintro e w9 ⟨p9, rfl, bb⟩
      have HB8 := aside (show Below w1.heap.size w1 w9 from (Below.refl _ w1).drew.trans bb)
      refine hK.out _ _ (SX.out _ HB8.out) (fun hHeld => ?_)
      clear hK K bb
      refine wpAnyH_ready (rs := [3]) (by kernel_rfl) (by simp) ?_
      refine AllReadyH.cons rfl (fun K hK => ?_) AllReadyH.nil
      go_simp
      refine hK.out _ _ (SX.out _ (bthen HB8.out (bnew _ _))) (fun hHeld => ?_)
      clear hK K
      refine wpAnyH_take (i := 5) (v := ?_) rfl (by kernel_rfl) (by kernel_rfl) (by kernel_rfl) (fun _ _ _ h => h) (Or.inl ⟨by rfl, ?_⟩) (by assumption) ?_
      rotate_left
      · intro w hSw
        go_simp
        try with_reducible rfl
      simp only [Act.put, List.getElem_toArray, List.getElem_cons_zero, List.getElem_cons_succ, List.setIfInBounds_toArray, List.set_cons_zero, List.set_cons_succ]
      have HB9 := aside hHeld.2
      refine wpAnyH_ready (rs := [6]) (by kernel_rfl) (by simp) ?_
      refine AllReadyH.cons rfl (fun K hK => ?_) AllReadyH.nil
      go_simp
      refine hK.out _ _ (SX.out _ (bthen HB9.out (bnew _ _))) (fun hHeld => ?_)
      clear hK K
      refine wpAnyH_take (i := 7) (v := ?_) rfl (by kernel_rfl) (by kernel_rfl) (by kernel_rfl) (fun _ _ _ h => h) (Or.inl ⟨by rfl, ?_⟩) (by assumption) ?_
      rotate_left
      · intro w hSw
        go_simp
        try with_reducible rfl
      simp only [Act.put, List.getElem_toArray, List.getElem_cons_zero, List.getElem_cons_succ, List.setIfInBounds_toArray, List.set_cons_zero, List.set_cons_succ]
      refine wpAnyH_take (i := 8) (v := ?_) rfl (by kernel_rfl) (by kernel_rfl) (by kernel_rfl) (fun _ _ _ h => h) (Or.inl ⟨by rfl, ?_⟩) (by assumption) ?_
      rotate_left
      · intro w hSw
        go_simp
        try with_reducible rfl
      simp only [Act.put, List.getElem_toArray, List.getElem_cons_zero, List.getElem_cons_succ, List.setIfInBounds_toArray, List.set_cons_zero, List.set_cons_succ]
      refine wpAnyH_done (by kernel_rfl) ?_ _
      go_wp2
      go_ret2
      exact ⟨bthen B1.out hHeld.2, .inr ⟨rfl, _, rfl, _, _, by first | exact heap_alloc_new _ _ | (have h9 := @heap_alloc_new (w9.alloc (.map #[] 0)); simp only [World.size_alloc] at h9; exact h9 _)⟩⟩
  · have HZ := aside hq
    have hzb : (z == 0) = false := by simpa using hq
    clear hq
    go_wp2
    go_ret2
    exact ⟨B1.out, .inl ⟨HZ.out, rfl⟩⟩
set_option maxHeartbeats 3200000 in
set_option maxRecDepth 100000 in
theorem live_any (sb nb : Nat) (b l t r z : Int) (hz : cfgE b l t r = z) (w : World) (hn : w.heap[nb]? = some (.cells #[.int .i64 b, .int .i64 l, .int .i64 t, .int .i64 r, .int .i64 0, .int .i64 0, .int .i64 0, .int .i64 0, .int .i64 0, .int .i64 0, .int .i64 0, .int .i64 0, .int .i64 0, .int .i64 0, .int .i64 0, .pointer none, .pointer none, .slice none 0 0, .int .i64 0] 45 (0, 0))) : Calls Tryz.prog 8 #[.pointer (some ⟨nb, 0, none⟩), .pointer (some ⟨sb, 0, none⟩)] w fun e w' => e = .returned (.int .i64 z) ∧ Keeps (fun x => x = nb) w w' ∧ LiveSay z b l t r sb nb w' := by
  have HN := aside hn
  have CS := aside (fun W => sesnew sb b l t r z hz W)
  clear hz hn
  have SX := aside (fun (W : World) (bb : Below w.heap.size w W) => (show (fun W => (W.cell? ⟨nb, 0, none⟩ = some (.int .i64 b) ∧ W.cell? ⟨nb, 1, none⟩ = some (.int .i64 l) ∧ W.cell? ⟨nb, 2, none⟩ = some (.int .i64 t) ∧ W.cell? ⟨nb, 3, none⟩ = some (.int .i64 r) ∧ W.cell? ⟨nb, 4, none⟩ = some (.int .i64 0)) ∧ Below w.heap.size w W) W from by
    have h9 := blk_on HN.out bb
    exact ⟨⟨by rw [cell_of_row _ _ 0 _ _ _ h9]; rfl, by rw [cell_of_row _ _ 1 _ _ _ h9]; rfl, by rw [cell_of_row _ _ 2 _ _ _ h9]; rfl, by rw [cell_of_row _ _ 3 _ _ _ h9]; rfl, by rw [cell_of_row _ _ 4 _ _ _ h9]; rfl⟩, bb⟩))
  go_enter Tryz.func8, Tryz.ntmps8
  go_wp2_with fail
  refine wp_region_held_drew (S := fun W => (W.cell? ⟨nb, 0, none⟩ = some (.int .i64 b) ∧ W.cell? ⟨nb, 1, none⟩ = some (.int .i64 l) ∧ W.cell? ⟨nb, 2, none⟩ = some (.int .i64 t) ∧ W.cell? ⟨nb, 3, none⟩ = some (.int .i64 r) ∧ W.cell? ⟨nb, 4, none⟩ = some (.int .i64 0)) ∧ Below w.heap.size w W) (by kernel_rfl) (SX.out _ (Below.refl _ w).drew) (fun hHeld => ?_)
  refine wpAnyH_take (i := 0) (v := ?_) rfl (by kernel_rfl) (by kernel_rfl) (by kernel_rfl) (fun _ _ _ h => h) (Or.inl ⟨by rfl, ?_⟩) (by assumption) ?_
  rotate_left
  · intro w hSw
    go_simp
    try with_reducible rfl
  simp only [Act.put, List.getElem_toArray, List.getElem_cons_zero, List.setIfInBounds_toArray, List.set_cons_zero, List.set_cons_succ]
  refine wpAnyH_take (i := 1) (v := ?_) rfl (by kernel_rfl) (by kernel_rfl) (by kernel_rfl) (fun _ _ _ h => h) (Or.inl ⟨by rfl, ?_⟩) (by assumption) ?_
  rotate_left
  · intro w hSw
    go_simp
    try with_reducible rfl
  simp only [Act.put, List.getElem_toArray, List.getElem_cons_zero, List.getElem_cons_succ, List.setIfInBounds_toArray, List.set_cons_zero, List.set_cons_succ]
  refine wpAnyH_take (i := 2) (v := ?_) rfl (by kernel_rfl) (by kernel_rfl) (by kernel_rfl) (fun _ _ _ h => h) (Or.inl ⟨by rfl, ?_⟩) (by assumption) ?_
  rotate_left
  · intro w hSw
    go_simp
    try with_reducible rfl
  simp only [Act.put, List.getElem_toArray, List.getElem_cons_zero, List.getElem_cons_succ, List.setIfInBounds_toArray, List.set_cons_zero, List.set_cons_succ]
  refine wpAnyH_take (i := 3) (v := ?_) rfl (by kernel_rfl) (by kernel_rfl) (by kernel_rfl) (fun _ _ _ h => h) (Or.inl ⟨by rfl, ?_⟩) (by assumption) ?_
  rotate_left
  · intro w hSw
    go_simp
    try with_reducible rfl
  simp only [Act.put, List.getElem_toArray, List.getElem_cons_zero, List.getElem_cons_succ, List.setIfInBounds_toArray, List.set_cons_zero, List.set_cons_succ]
  refine wpAnyH_take (i := 4) (v := ?_) rfl (by kernel_rfl) (by kernel_rfl) (by kernel_rfl) (fun _ _ _ h => h) (Or.inl ⟨by rfl, ?_⟩) (by assumption) ?_
  rotate_left
  · intro w hSw
    go_simp
    try with_reducible rfl
  simp only [Act.put, List.getElem_toArray, List.getElem_cons_zero, List.getElem_cons_succ, List.setIfInBounds_toArray, List.set_cons_zero, List.set_cons_succ]
  refine wpAnyH_take (i := 5) (v := ?_) rfl (by kernel_rfl) (by kernel_rfl) (by kernel_rfl) (fun _ _ _ h => h) (Or.inl ⟨by rfl, ?_⟩) (by assumption) ?_
  rotate_left
  · intro w hSw
    go_simp
    try with_reducible rfl
  simp only [Act.put, List.getElem_toArray, List.getElem_cons_zero, List.getElem_cons_succ, List.setIfInBounds_toArray, List.set_cons_zero, List.set_cons_succ]
  refine wpAnyH_take (i := 6) (v := ?_) rfl (by kernel_rfl) (by kernel_rfl) (by kernel_rfl) (fun _ _ _ h => h) (Or.inl ⟨by rfl, ?_⟩) (by assumption) ?_
  rotate_left
  · intro w hSw
    go_simp
    try with_reducible rfl
  simp only [Act.put, List.getElem_toArray, List.getElem_cons_zero, List.getElem_cons_succ, List.setIfInBounds_toArray, List.set_cons_zero, List.set_cons_succ]
  refine wpAnyH_take (i := 7) (v := ?_) rfl (by kernel_rfl) (by kernel_rfl) (by kernel_rfl) (fun _ _ _ h => h) (Or.inl ⟨by rfl, ?_⟩) (by assumption) ?_
  rotate_left
  · intro w hSw
    go_simp
    try with_reducible rfl
  simp only [Act.put, List.getElem_toArray, List.getElem_cons_zero, List.getElem_cons_succ, List.setIfInBounds_toArray, List.set_cons_zero, List.set_cons_succ]
  refine wpAnyH_take (i := 8) (v := ?_) rfl (by kernel_rfl) (by kernel_rfl) (by kernel_rfl) (fun _ _ _ h => h) (Or.inl ⟨by rfl, ?_⟩) (by assumption) ?_
  rotate_left
  · intro w hSw
    go_simp
    try with_reducible rfl
  simp only [Act.put, List.getElem_toArray, List.getElem_cons_zero, List.getElem_cons_succ, List.setIfInBounds_toArray, List.set_cons_zero, List.set_cons_succ]
  refine wpAnyH_take (i := 9) (v := ?_) rfl (by kernel_rfl) (by kernel_rfl) (by kernel_rfl) (fun _ _ _ h => h) (Or.inl ⟨by rfl, ?_⟩) (by assumption) ?_
  rotate_left
  · intro w hSw
    go_simp
    try with_reducible rfl
  simp only [Act.put, List.getElem_toArray, List.getElem_cons_zero, List.getElem_cons_succ, List.setIfInBounds_toArray, List.set_cons_zero, List.set_cons_succ]
  refine wpAnyH_ready (rs := [10]) (by kernel_rfl) (by simp) ?_
  refine AllReadyH.cons rfl (fun K hK => ?_) AllReadyH.nil
  go_simp
  refine (CS.out _).mono ?_
  rintro e w9 ⟨bb, ⟨hz, rfl⟩ | ⟨rfl, d, rfl, m, q, hdk⟩⟩
  · refine hK.out _ _ (SX.out _ (bthen hHeld.2 bb)) (fun hHeld => ?_)
    clear hK K bb
    refine wpAnyH_take (i := 11) (v := ?_) rfl (by kernel_rfl) (by kernel_rfl) (by kernel_rfl) (fun _ _ _ h => h) (Or.inl ⟨by rfl, ?_⟩) (by assumption) ?_
    rotate_left
    · intro w hSw
      go_simp
      try with_reducible rfl
    simp only [Act.put, List.getElem_toArray, List.getElem_cons_zero, List.getElem_cons_succ, List.setIfInBounds_toArray, List.set_cons_zero, List.set_cons_succ]
    refine wpAnyH_take (i := 12) (v := ?_) rfl (by kernel_rfl) (by kernel_rfl) (by kernel_rfl) (fun _ _ _ h => h) (Or.inl ⟨by rfl, ?_⟩) (by assumption) ?_
    rotate_left
    · intro w hSw
      go_simp
      try with_reducible rfl
    simp only [Act.put, List.getElem_toArray, List.getElem_cons_zero, List.getElem_cons_succ, List.setIfInBounds_toArray, List.set_cons_zero, List.set_cons_succ]
    refine wpAnyH_take (i := 13) (v := ?_) rfl (by kernel_rfl) (by kernel_rfl) (by kernel_rfl) (fun _ _ _ h => h) (Or.inl ⟨by rfl, ?_⟩) (by assumption) ?_
    rotate_left
    · intro w hSw
      go_simp
      try with_reducible rfl
    simp only [Act.put, List.getElem_toArray, List.getElem_cons_zero, List.getElem_cons_succ, List.setIfInBounds_toArray, List.set_cons_zero, List.set_cons_succ]
    refine wpAnyH_take (i := 14) (v := ?_) rfl (by kernel_rfl) (by kernel_rfl) (by kernel_rfl) (fun _ _ _ h => h) (Or.inl ⟨by rfl, ?_⟩) (by assumption) ?_
    rotate_left
    · intro w hSw
      go_simp
      try with_reducible rfl
    simp only [Act.put, List.getElem_toArray, List.getElem_cons_zero, List.getElem_cons_succ, List.setIfInBounds_toArray, List.set_cons_zero, List.set_cons_succ]
    refine wpAnyH_take (i := 15) (v := ?_) rfl (by kernel_rfl) (by kernel_rfl) (by kernel_rfl) (fun _ _ _ h => h) (Or.inl ⟨by rfl, ?_⟩) (by assumption) ?_
    rotate_left
    · intro w hSw
      go_simp
      try with_reducible rfl
    simp only [Act.put, List.getElem_toArray, List.getElem_cons_zero, List.getElem_cons_succ, List.setIfInBounds_toArray, List.set_cons_zero, List.set_cons_succ]
    refine wpAnyH_done (by kernel_rfl) ?_ _
    have HZ := aside hz
    have HB := aside hHeld.2
    have hzb : (z == 0) = false := by simpa using hz
    clear hz hHeld
    go_wp2
    go_ret
    exact ⟨rfl, Keeps.of_below HB.out _, fun h => absurd h HZ.out⟩
  · have HK := aside hdk
    refine hK.out _ _ (SX.out _ (bthen hHeld.2 bb)) (fun hHeld => ?_)
    clear hK K bb hdk
    refine wpAnyH_take (i := 11) (v := ?_) rfl (by kernel_rfl) (by kernel_rfl) (by kernel_rfl) (fun _ _ _ h => h) (Or.inl ⟨by rfl, ?_⟩) (by assumption) ?_
    rotate_left
    · intro w hSw
      go_simp
      try with_reducible rfl
    simp only [Act.put, List.getElem_toArray, List.getElem_cons_zero, List.getElem_cons_succ, List.setIfInBounds_toArray, List.set_cons_zero, List.set_cons_succ]
    refine wpAnyH_take (i := 12) (v := ?_) rfl (by kernel_rfl) (by kernel_rfl) (by kernel_rfl) (fun _ _ _ h => h) (Or.inl ⟨by rfl, ?_⟩) (by assumption) ?_
    rotate_left
    · intro w hSw
      go_simp
      try with_reducible rfl
    simp only [Act.put, List.getElem_toArray, List.getElem_cons_zero, List.getElem_cons_succ, List.setIfInBounds_toArray, List.set_cons_zero, List.set_cons_succ]
    refine wpAnyH_take (i := 13) (v := ?_) rfl (by kernel_rfl) (by kernel_rfl) (by kernel_rfl) (fun _ _ _ h => h) (Or.inl ⟨by rfl, ?_⟩) (by assumption) ?_
    rotate_left
    · intro w hSw
      go_simp
      try with_reducible rfl
    simp only [Act.put, List.getElem_toArray, List.getElem_cons_zero, List.getElem_cons_succ, List.setIfInBounds_toArray, List.set_cons_zero, List.set_cons_succ]
    refine wpAnyH_take (i := 14) (v := ?_) rfl (by kernel_rfl) (by kernel_rfl) (by kernel_rfl) (fun _ _ _ h => h) (Or.inl ⟨by rfl, ?_⟩) (by assumption) ?_
    rotate_left
    · intro w hSw
      go_simp
      try with_reducible rfl
    simp only [Act.put, List.getElem_toArray, List.getElem_cons_zero, List.getElem_cons_succ, List.setIfInBounds_toArray, List.set_cons_zero, List.set_cons_succ]
    refine wpAnyH_take (i := 15) (v := ?_) rfl (by kernel_rfl) (by kernel_rfl) (by kernel_rfl) (fun _ _ _ h => h) (Or.inl ⟨by rfl, ?_⟩) (by assumption) ?_
    rotate_left
    · intro w hSw
      go_simp
      try with_reducible rfl
    simp only [Act.put, List.getElem_toArray, List.getElem_cons_zero, List.getElem_cons_succ, List.setIfInBounds_toArray, List.set_cons_zero, List.set_cons_succ]
    refine wpAnyH_done (by kernel_rfl) ?_ _
    have HB := aside hHeld.2
    have HN9 := aside (blk_on HN.out hHeld.2)
    clear hHeld SX CS HN
    have c4 : w9.cell? ⟨nb, 4, none⟩ = some (.int .i64 0) := by rw [cell_of_row _ _ 4 _ _ _ HN9.out]; rfl
    have c15 : w9.cell? ⟨nb, 15, none⟩ = some (.pointer none) := by rw [cell_of_row _ _ 15 _ _ _ HN9.out]; rfl
    have c16 : w9.cell? ⟨nb, 16, none⟩ = some (.pointer none) := by rw [cell_of_row _ _ 16 _ _ _ HN9.out]; rfl
    have c17 : w9.cell? ⟨nb, 17, none⟩ = some (.slice none 0 0) := by rw [cell_of_row _ _ 17 _ _ _ HN9.out]; rfl
    have c18 : w9.cell? ⟨nb, 18, none⟩ = some (.int .i64 0) := by rw [cell_of_row _ _ 18 _ _ _ HN9.out]; rfl
    have z4 := frozen_of_row _ _ 4 _ _ HN9.out
    have z15 := frozen_of_row _ _ 15 _ _ HN9.out
    have z16 := frozen_of_row _ _ 16 _ _ HN9.out
    have z17 := frozen_of_row _ _ 17 _ _ HN9.out
    have z18 := frozen_of_row _ _ 18 _ _ HN9.out
    go_wp2
    go_ret
    have kk := ((((((Keeps.refl (fun x => x = nb) w9).setCell (p := ⟨nb, 4, none⟩) (fun _ => rfl) (.int .i64 1)).setCell (p := ⟨nb, 15, none⟩) (fun _ => rfl) (.pointer (some ⟨sb, 0, none⟩))).setCell (p := ⟨nb, 16, none⟩) (fun _ => rfl) (.pointer (some ⟨d, 0, none⟩))).setCell (p := ⟨nb, 17, none⟩) (fun _ => rfl) (.slice none 0 0)).setCell (p := ⟨nb, 18, none⟩) (fun _ => rfl) (.int .i64 0))
    refine ⟨rfl, (Keeps.of_below HB.out _).trans kk, fun _ => ⟨d, ?_, m, q, ?_⟩⟩
    · have kz := (heap_setCell_same _ nb 18 _ _ (.int .i64 0) (heap_setCell_same _ nb 17 _ _ (.slice none 0 0) (heap_setCell_same _ nb 16 _ _ (.pointer (some ⟨d, 0, none⟩)) (heap_setCell_same _ nb 15 _ _ (.pointer (some ⟨sb, 0, none⟩)) (heap_setCell_same _ nb 4 _ _ (.int .i64 1) HN9.out)))))
      simpa only [List.setIfInBounds_toArray, List.set_cons_zero, List.set_cons_succ] using kz
    · exact blk_keep HK.out kk (fun e => by have e' : d = nb := e; have h9 := HK.out; rw [e', HN9.out] at h9; simp at h9)
set_option maxHeartbeats 3200000 in
set_option maxRecDepth 100000 in
theorem nnew_any (nd b l t r : Int) (w : World) : Calls Tryz.prog 4 #[.int .i64 nd, .agg #[.int .i64 b, .int .i64 l, .int .i64 t, .int .i64 r]] w fun e w' => Below w.heap.size w w' ∧ ((¬ (nodeB nd = true ∧ cfgE b l t r = 0) ∧ e = .returned (.tuple #[.pointer none, .int .i64 1])) ∨ ((nodeB nd = true ∧ cfgE b l t r = 0) ∧ ∃ nb sb g tb d, e = .returned (.tuple #[.pointer (some ⟨nb, 0, none⟩), .int .i64 0]) ∧ w'.heap[nb]? = some (.cells #[.int .i64 b, .int .i64 l, .int .i64 t, .int .i64 r, .int .i64 1, .int .i64 0, .int .i64 0, .int .i64 0, .int .i64 0, .int .i64 0, .int .i64 0, .int .i64 0, .int .i64 0, .int .i64 0, .int .i64 0, .pointer (some ⟨sb, 0, none⟩), .pointer (some ⟨d, 0, none⟩), .slice none 0 0, .int .i64 0] 45 (0, 0)) ∧ Sto w' sb g tb nd 0 [] ∧ DeskAt w' d sb b l t r)) := by
  have B0 := aside (bnew w (.cells #[.int .i64 b, .int .i64 l, .int .i64 t, .int .i64 r] 23))
  have K0 := aside (heap_alloc_new w (.cells #[.int .i64 b, .int .i64 l, .int .i64 t, .int .i64 r] 23))
  have C := aside (qnew nd (w.alloc (.cells #[.int .i64 b, .int .i64 l, .int .i64 t, .int .i64 r] 23)))
  go_enter Tryz.func4, Tryz.ntmps4
  go_wp2_with fail
  refine C.out.mono ?_
  rintro e w1 ⟨b1, ⟨hn, rfl⟩ | ⟨hn, sb, g, tb, rfl, hst, -⟩⟩
  · have HN := aside hn
    have B1 := aside (bthen B0.out b1)
    clear b1 C K0 hn B0
    go_wp2
    go_ret2
    exact ⟨B1.out, .inl ⟨fun h => (by rw [HN.out] at h; exact absurd h.1 (by decide)), rfl⟩⟩
  have HN := aside hn
  have HS := aside hst
  have B1 := aside (bthen B0.out b1)
  have K1 := aside (blk_on K0.out b1)
  obtain ⟨q0, q1, q2, q3, -⟩ := quad K1.out
  obtain ⟨z, hz⟩ : ∃ z, cfgE b l t r = z := ⟨_, rfl⟩
  have HZ := aside hz
  have BN := bnew w1 (.cells #[.int .i64 b, .int .i64 l, .int .i64 t, .int .i64 r, .int .i64 0, .int .i64 0, .int .i64 0, .int .i64 0, .int .i64 0, .int .i64 0, .int .i64 0, .int .i64 0, .int .i64 0, .int .i64 0, .int .i64 0, .pointer none, .pointer none, .slice none 0 0, .int .i64 0] 45)
  have KN := aside (heap_alloc_new w1 (.cells #[.int .i64 b, .int .i64 l, .int .i64 t, .int .i64 r, .int .i64 0, .int .i64 0, .int .i64 0, .int .i64 0, .int .i64 0, .int .i64 0, .int .i64 0, .int .i64 0, .int .i64 0, .int .i64 0, .int .i64 0, .pointer none, .pointer none, .slice none 0 0, .int .i64 0] 45))
  have B2 := aside (bthen B1.out BN)
  have HS2 := aside (HS.out.below BN)
  clear b1 C B0 hn hst K0 BN hz
  go_wp2_with fail
  obtain ⟨nb, hnb⟩ : ∃ nb, w1.heap.size = nb := ⟨_, rfl⟩
  have HNB := aside (show w.heap.size ≤ nb from by have := B1.out.size; omega)
  rw [hnb] at KN ⊢
  obtain ⟨V, hV⟩ : ∃ V, w1.alloc (.cells #[.int .i64 b, .int .i64 l, .int .i64 t, .int .i64 r, .int .i64 0, .int .i64 0, .int .i64 0, .int .i64 0, .int .i64 0, .int .i64 0, .int .i64 0, .int .i64 0, .int .i64 0, .int .i64 0, .int .i64 0, .pointer none, .pointer none, .slice none 0 0, .int .i64 0] 45) = V := ⟨_, rfl⟩
  rw [hV] at KN B2 HS2 ⊢
  clear hV hnb q0 q1 q2 q3 HS B1 K1
  refine (live_any sb nb b l t r z HZ.out V KN.out).mono ?_
  rintro e w3 ⟨rfl, k3, h3⟩
  have B3 := aside (show Below w.heap.size w w3 from B2.out.trans (k3.below B2.out.size (fun j hj e => by have e' : j = nb := e; have := HNB.out; omega)))
  have HS3 := aside (show Sto w3 sb g tb nd 0 [] from HS2.out.setN KN.out (by decide) (by decide) (by decide) (by decide) k3)
  have H3 := aside h3
  clear k3 h3
  by_cases hq : z = 0
  · subst hq
    go_wp2
    go_ret2
    obtain ⟨d, h5, h6⟩ := H3.out rfl
    exact ⟨B3.out, .inr ⟨⟨HN.out, HZ.out⟩, nb, sb, g, tb, d, rfl, h5, HS3.out, h6⟩⟩
  · have HQ := aside hq
    have hzb : (z == 0) = false := by simpa using hq
    have hz1 : z = 1 := by have := HZ.out; unfold cfgE at this; split at this <;> omega
    subst hz1
    clear hq
    go_wp2
    go_ret2
    exact ⟨B3.out, .inl ⟨fun h => HQ.out (by rw [← HZ.out]; exact h.2), rfl⟩⟩
end Go.Proofs.YtldnmboenfaajaaGreatDoor

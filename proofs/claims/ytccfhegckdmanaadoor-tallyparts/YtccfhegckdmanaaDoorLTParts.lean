/-
  The law TallyParts, walked.
-/
import Derived.Test.YtccfhegckdmanaaDoorTaRow
import Derived.Test.YtccfhegckdmanaaDoorTaLess
namespace Go.Proofs.YtccfhegckdmanaaDoor
open Go.RowKit
set_option linter.unusedVariables false

theorem tp_keep {w5 X X' : World} {i6 len0 : Nat} {x0 x1 : Int} (h : Below w5.heap.size w5 X ∧ X.cell? ⟨i6, 0, none⟩ = some (.int .i64 (len0 : Int)) ∧ X.cell? ⟨i6, 1, none⟩ = some (.int .u64 x0) ∧ X.cell? ⟨i6, 2, none⟩ = some (.int .u64 x1)) (bb : Below X.heap.size X X') : Below w5.heap.size w5 X' ∧ X'.cell? ⟨i6, 0, none⟩ = some (.int .i64 (len0 : Int)) ∧ X'.cell? ⟨i6, 1, none⟩ = some (.int .u64 x0) ∧ X'.cell? ⟨i6, 2, none⟩ = some (.int .u64 x1) := by
  obtain ⟨h, h0, h1, h2⟩ := h
  exact ⟨bthen h bb, cell_in h0 bb, cell_in h1 bb, cell_in h2 bb⟩

set_option maxRecDepth 100000 in
set_option maxHeartbeats 6400000 in
theorem ltparts_walk (a0 : Option Addr) (len0 cap0 : Nat) (T0 : Nat → En) (a1 : Option Addr) (len1 cap1 : Nat) (T1 : Nat → En) (w : World) (L : Lanes w)
    (h0 : EntsIn w a0 len0 cap0 T0) (fm0 : (a0 = none ∧ len0 = 0 ∧ cap0 = 0) ∨ ∃ y, a0 = some y) (h1 : EntsIn w a1 len1 cap1 T1) (fm1 : (a1 = none ∧ len1 = 0 ∧ cap1 = 0) ∨ ∃ y, a1 = some y) :
    Calls Tryd.prog 4 #[.slice a0 len0 cap0, .slice a1 len1 cap1] w fun e w' => e = .returned (.bool true) ∧ Below w.heap.size w w' := by
  have LL := aside L
  have H0 := aside h0
  have H1 := aside h1
  have F0 := aside fm0
  have F1 := aside fm1
  clear L h0 h1 fm0 fm1
  go_enter Tryd.func4, Tryd.ntmps4
  go_wp2_with fail
  refine (beyond_any a0 len0 cap0 T0 _ H0.out).mono ?_
  rintro e w1 ⟨q, rfl, hq, b1⟩
  have B1 := aside b1
  have Q0 := aside hq
  clear b1 hq
  cases q
  case true =>
    go_wp2
    go_ret
    exact ⟨rfl, B1.out⟩
  go_wp2_with fail
  refine (beyond_any a1 len1 cap1 T1 _ (H1.out.keep B1.out)).mono ?_
  rintro e w2 ⟨q, rfl, hq, b2⟩
  have B2 := aside (bthen B1.out b2)
  have Q1 := aside hq
  clear b2 hq B1
  cases q
  case true =>
    go_wp2
    go_ret
    exact ⟨rfl, B2.out⟩
  have hl0 : len0 ≤ 1073741824 := Q0.out rfl
  have hl1 : len1 ≤ 1073741824 := Q1.out rfl
  have O0 := aside (own_empty w2 w2.heap.size (Nat.le_refl _))
  have BV := aside (bnew w2 (.cells #[] 32))
  clear Q0 Q1
  go_wp2_with (at_builtin; refine wpList_plain rfl fun K hK => op_append_list (V := w2) _ _ rfl 0 (.slice (some ⟨w2.heap.size, 0, none⟩) 0 0) [] (by rfl) O0.out a0 len0 cap0 T0 (by rfl) (H0.out.keep (bthen B2.out BV.out)) F0.out (by omega) BV.out ?_; intro v4 w4 own4 b4; refine hK _ _ ?_; refine Hid.out ?_)
  refine aside ?_
  rw [Nat.zero_add, List.nil_append] at own4
  have B4 := aside b4
  have O4 := aside own4
  clear b4 O0 BV
  obtain ⟨aA, cA, rfl, -, -, -⟩ := own_slice own4
  clear own4
  go_wp2_with (at_builtin; refine wpList_plain rfl fun K hK => op_append_list (V := w2) _ _ rfl len0 (.slice aA len0 cA) (firstE T0 len0) (by rfl) O4.out a1 len1 cap1 T1 (by rfl) (H1.out.keep (bthen B2.out B4.out)) F1.out (by omega) B4.out ?_; intro v5 w5 own5 b5; refine hK _ _ ?_; refine Hid.out ?_)
  refine aside ?_
  have B25 := aside b5
  have B5 := aside (bthen B2.out b5)
  have O5 := aside own5
  clear b5 O4 B4 B2 F0 F1
  obtain ⟨aM, cM, rfl, -, -, -⟩ := own_slice own5
  clear own5
  have kM := aside (keys_both (keys_first H0.out) (keys_first H1.out))
  obtain ⟨x0, hx0⟩ : ∃ x, allI f0 (firstE T0 len0) = x := ⟨_, rfl⟩
  obtain ⟨x1, hx1⟩ : ∃ x, allI f1 (firstE T0 len0) = x := ⟨_, rfl⟩
  obtain ⟨y0, hy0⟩ : ∃ x, allI f0 (firstE T1 len1) = x := ⟨_, rfl⟩
  obtain ⟨y1, hy1⟩ : ∃ x, allI f1 (firstE T1 len1) = x := ⟨_, rfl⟩
  obtain ⟨p0, hp0⟩ : ∃ x, allI f0 (firstE T0 len0 ++ firstE T1 len1) = x := ⟨_, rfl⟩
  obtain ⟨p1, hp1⟩ : ∃ x, allI f1 (firstE T0 len0 ++ firstE T1 len1) = x := ⟨_, rfl⟩
  have ea0 := allI_app f0 (firstE T0 len0) (firstE T1 len1)
  have ea1 := allI_app f1 (firstE T0 len0) (firstE T1 len1)
  have rx0 := allI_range f0 (firstE T0 len0)
  have rx1 := allI_range f1 (firstE T0 len0)
  have ry0 := allI_range f0 (firstE T1 len1)
  have ry1 := allI_range f1 (firstE T1 len1)
  rw [hx0] at rx0 ea0
  rw [hx1] at rx1 ea1
  rw [hy0] at ry0 ea0
  rw [hy1] at ry1 ea1
  rw [hp0] at ea0
  rw [hp1] at ea1
  have hlM : (firstE T0 len0 ++ firstE T1 len1).length = len0 + len1 := by simp [firstE]
  have hzero : len0 = 0 → x0 = 0 ∧ x1 = 0 := fun h => by
    subst h
    rw [show firstE T0 0 = [] from rfl, allI_nil] at hx0 hx1
    exact ⟨hx0.symm, hx1.symm⟩
  have CL := aside (fun W => tless_at (n := (len0 : Int) + (len1 : Int)) (a := p0) (b := p1) (m := (len1 : Int)) (c := y0) (d := y1) (r := (len0 : Int)) (x := x0) (y := x1) (by
    rintro (h | h | h | ⟨h, h6⟩)
    · omega
    · omega
    · omega
    · obtain ⟨e1, e2⟩ := hzero (by omega)
      refine h6 ⟨?_, ?_⟩
      · rw [← ea0, IntKind.wrap_u64]; omega
      · rw [← ea1, IntKind.wrap_u64]; omega) (by rw [IntKind.wrap_i64]; omega) (by rw [← ea0, IntKind.wrap_u64, IntKind.wrap_u64]; omega) (by rw [← ea1, IntKind.wrap_u64, IntKind.wrap_u64]; omega) W)
  have CA : Hid (∀ X, Below w5.heap.size w5 X → Calls Tryd.prog 10 #[.slice aM (len0 + len1) cM] X fun e w' => e = .returned (.agg #[.int .i64 ((len0 : Int) + (len1 : Int)), .int .u64 p0, .int .u64 p1]) ∧ Below X.heap.size X w') := fun X b => by
    have h := tall_row (own_on O5.out b) kM.out (LL.out.keep (bthen B5.out b))
    rw [talLv, hlM, hp0, hp1, Int.natCast_add] at h
    exact h
  have C0 : Hid (∀ X, Below w5.heap.size w5 X → Calls Tryd.prog 10 #[.slice a0 len0 cap0] X fun e w' => e = .returned (.agg #[.int .i64 (len0 : Int), .int .u64 x0, .int .u64 x1]) ∧ Below X.heap.size X w') := fun X b => by
    have h := tall_any a0 len0 cap0 T0 X (LL.out.keep (bthen B5.out b)) (H0.out.keep (bthen B5.out b))
    rw [talT, hx0, hx1] at h
    exact h
  have C1 : Hid (∀ X, Below w5.heap.size w5 X → Calls Tryd.prog 10 #[.slice a1 len1 cap1] X fun e w' => e = .returned (.agg #[.int .i64 (len1 : Int), .int .u64 y0, .int .u64 y1]) ∧ Below X.heap.size X w') := fun X b => by
    have h := tall_any a1 len1 cap1 T1 X (LL.out.keep (bthen B5.out b)) (H1.out.keep (bthen B5.out b))
    rw [talT, hy0, hy1] at h
    exact h
  clear hzero hlM hx0 hx1 hy0 hy1 hp0 hp1 ea0 ea1 rx0 rx1 ry0 ry1 kM O5 B25 H0 H1 LL
  have qs := tal_same (len0 : Int) x0 x1
  go_wp2_with fail
  refine (CA.out _ (Below.refl _ _)).mono ?_
  rintro e w6 ⟨rfl, b6⟩
  have B6 := aside b6
  clear b6
  go_wp2_with fail
  refine (C1.out _ B6.out).mono ?_
  rintro e w7 ⟨rfl, b7⟩
  have B7 := aside (bthen B6.out b7)
  clear b7 B6
  go_wp2_with fail
  refine (CL.out _).mono ?_
  rintro e w8 ⟨rfl, b8⟩
  have B8 := aside (bthen (bthen B7.out b8) (bnew w8 (.cells #[.int .i64 (len0 : Int), .int .u64 x0, .int .u64 x1] 28)))
  have G8 := aside (heap_alloc_new w8 (.cells #[.int .i64 (len0 : Int), .int .u64 x0, .int .u64 x1] 28))
  clear b8 B7 CA C1 CL
  go_wp2_with fail
  generalize w8.alloc (.cells #[.int .i64 (len0 : Int), .int .u64 x0, .int .u64 x1] 28) = V8 at *
  generalize w8.heap.size = i6 at *
  have S0 : Hid (Below w5.heap.size w5 V8.drew ∧ V8.drew.cell? ⟨i6, 0, none⟩ = some (.int .i64 (len0 : Int)) ∧ V8.drew.cell? ⟨i6, 1, none⟩ = some (.int .u64 x0) ∧ V8.drew.cell? ⟨i6, 2, none⟩ = some (.int .u64 x1)) := ⟨B8.out.drew, (tri G8.out).1, (tri G8.out).2.1, (tri G8.out).2.2.1⟩
  clear G8 B8
  refine wp_region_held_drew (S := fun X => Below w5.heap.size w5 X ∧ X.cell? ⟨i6, 0, none⟩ = some (.int .i64 (len0 : Int)) ∧ X.cell? ⟨i6, 1, none⟩ = some (.int .u64 x0) ∧ X.cell? ⟨i6, 2, none⟩ = some (.int .u64 x1)) (by kernel_rfl) S0.out (fun hHeld => ?_)
  clear S0
  refine wpAnyH_take (i := 0) (v := ?_) rfl (by kernel_rfl) (by kernel_rfl) (by kernel_rfl) (fun _ _ _ h => h) (Or.inl ⟨by rfl, ?_⟩) (by assumption) ?_
  rotate_left
  · intro w hSw
    go_simp
    try with_reducible rfl
  simp only [Act.put, List.getElem_toArray, List.getElem_cons_zero, List.setIfInBounds_toArray, List.set_cons_zero, List.set_cons_succ]
  refine wpAnyH_take (i := 1) (v := ?_) rfl (by kernel_rfl) (by kernel_rfl) (by kernel_rfl) (fun _ _ _ h => h) (Or.inl ⟨by rfl, ?_⟩) (by assumption) ?_
  rotate_left
  · intro w hSw
    go_simp
    try with_reducible rfl
  simp only [Act.put, List.getElem_toArray, List.getElem_cons_zero, List.getElem_cons_succ, List.setIfInBounds_toArray, List.set_cons_zero, List.set_cons_succ]
  refine wpAnyH_take (i := 2) (v := ?_) rfl (by kernel_rfl) (by kernel_rfl) (by kernel_rfl) (fun _ _ _ h => h) (Or.inl ⟨by rfl, ?_⟩) (by assumption) ?_
  rotate_left
  · intro w hSw
    go_simp
    try with_reducible rfl
  simp only [Act.put, List.getElem_toArray, List.getElem_cons_zero, List.getElem_cons_succ, List.setIfInBounds_toArray, List.set_cons_zero, List.set_cons_succ]
  refine wpAnyH_take (i := 3) (v := ?_) rfl (by kernel_rfl) (by kernel_rfl) (by kernel_rfl) (fun _ _ _ h => h) (Or.inl ⟨by rfl, ?_⟩) (by assumption) ?_
  rotate_left
  · intro w hSw
    go_simp
    try with_reducible rfl
  simp only [Act.put, List.getElem_toArray, List.getElem_cons_zero, List.getElem_cons_succ, List.setIfInBounds_toArray, List.set_cons_zero, List.set_cons_succ]
  refine wpAnyH_take (i := 4) (v := ?_) rfl (by kernel_rfl) (by kernel_rfl) (by kernel_rfl) (fun _ _ _ h => h) (Or.inl ⟨by rfl, ?_⟩) (by assumption) ?_
  rotate_left
  · intro w hSw
    go_simp
    try with_reducible rfl
  simp only [Act.put, List.getElem_toArray, List.getElem_cons_zero, List.getElem_cons_succ, List.setIfInBounds_toArray, List.set_cons_zero, List.set_cons_succ]
  refine wpAnyH_ready (rs := [5]) (by kernel_rfl) (by simp) ?_
  refine AllReadyH.cons rfl (fun K hK => ?_) AllReadyH.nil
  go_simp
  refine (C0.out _ hHeld.1).mono ?_
  rintro e w9 ⟨rfl, bb⟩
  refine hK.out _ _ (tp_keep hHeld bb) (fun hHeld => ?_)
  clear hK K 
  refine wpAnyH_take (i := 6) (v := ?_) rfl (by kernel_rfl) (by kernel_rfl) (by kernel_rfl) (fun _ _ _ h => h) (Or.inl ⟨by rfl, ?_⟩) (by assumption) ?_
  rotate_left
  · intro w hSw
    go_simp
    try with_reducible rfl
  simp only [Act.put, List.getElem_toArray, List.getElem_cons_zero, List.getElem_cons_succ, List.setIfInBounds_toArray, List.set_cons_zero, List.set_cons_succ]
  refine wpAnyH_take (i := 7) (v := ?_) rfl (by kernel_rfl) (by kernel_rfl) (by kernel_rfl) (fun _ _ _ h => h) (Or.inl ⟨by rfl, ?_⟩) (by assumption) ?_
  rotate_left
  · intro w hSw
    go_simp
    try with_reducible rfl
  simp only [Act.put, List.getElem_toArray, List.getElem_cons_zero, List.getElem_cons_succ, List.setIfInBounds_toArray, List.set_cons_zero, List.set_cons_succ]
  refine wpAnyH_take (i := 8) (v := ?_) rfl (by kernel_rfl) (by kernel_rfl) (by kernel_rfl) (fun _ _ _ h => h) (Or.inl ⟨by rfl, ?_⟩) (by assumption) ?_
  rotate_left
  · intro w hSw
    go_simp
    try with_reducible rfl
  simp only [Act.put, List.getElem_toArray, List.getElem_cons_zero, List.getElem_cons_succ, List.setIfInBounds_toArray, List.set_cons_zero, List.set_cons_succ]
  refine wpAnyH_take (i := 9) (v := ?_) rfl (by kernel_rfl) (by kernel_rfl) (by kernel_rfl) (fun _ _ _ h => h) (Or.inl ⟨by rfl, ?_⟩) (by assumption) ?_
  rotate_left
  · intro w hSw
    go_simp
    try with_reducible rfl
  simp only [Act.put, List.getElem_toArray, List.getElem_cons_zero, List.getElem_cons_succ, List.setIfInBounds_toArray, List.set_cons_zero, List.set_cons_succ]
  refine wpAnyH_take (i := 10) (v := ?_) rfl (by kernel_rfl) (by kernel_rfl) (by kernel_rfl) (fun _ _ _ h => h) (Or.inl ⟨by rfl, ?_⟩) (by assumption) ?_
  rotate_left
  · intro w hSw
    go_simp
    try with_reducible rfl
  simp only [Act.put, List.getElem_toArray, List.getElem_cons_zero, List.getElem_cons_succ, List.setIfInBounds_toArray, List.set_cons_zero, List.set_cons_succ]
  refine wpAnyH_take (i := 11) (v := ?_) rfl (by kernel_rfl) (by kernel_rfl) (by kernel_rfl) (fun _ _ _ h => h) (Or.inl ⟨by rfl, ?_⟩) (by assumption) ?_
  rotate_left
  · intro w hSw
    go_simp
    try with_reducible rfl
  simp only [Act.put, List.getElem_toArray, List.getElem_cons_zero, List.getElem_cons_succ, List.setIfInBounds_toArray, List.set_cons_zero, List.set_cons_succ]
  refine wpAnyH_take (i := 12) (v := ?_) rfl (by kernel_rfl) (by kernel_rfl) (by kernel_rfl) (fun _ _ _ h => h) (Or.inl ⟨by rfl, ?_⟩) (by assumption) ?_
  rotate_left
  · intro w hSw
    go_simp
    try with_reducible rfl
  simp only [Act.put, List.getElem_toArray, List.getElem_cons_zero, List.getElem_cons_succ, List.setIfInBounds_toArray, List.set_cons_zero, List.set_cons_succ]
  refine wpAnyH_take (i := 13) (v := ?_) rfl (by kernel_rfl) (by kernel_rfl) (by kernel_rfl) (fun _ _ _ h => h) (Or.inl ⟨by rfl, ?_⟩) (by assumption) ?_
  rotate_left
  · intro w hSw
    go_simp
    try with_reducible rfl
  simp only [Act.put, List.getElem_toArray, List.getElem_cons_zero, List.getElem_cons_succ, List.setIfInBounds_toArray, List.set_cons_zero, List.set_cons_succ]
  refine wpAnyH_take (i := 14) (v := ?_) rfl (by kernel_rfl) (by kernel_rfl) (by kernel_rfl) (fun _ _ _ h => h) (Or.inl ⟨by rfl, ?_⟩) (by assumption) ?_
  rotate_left
  · intro w hSw
    go_simp
    try with_reducible rfl
  simp only [Act.put, List.getElem_toArray, List.getElem_cons_zero, List.getElem_cons_succ, List.setIfInBounds_toArray, List.set_cons_zero, List.set_cons_succ]
  refine wpAnyH_take (i := 15) (v := ?_) rfl (by kernel_rfl) (by kernel_rfl) (by kernel_rfl) (fun _ _ _ h => h) (Or.inl ⟨by rfl, ?_⟩) (by assumption) ?_
  rotate_left
  · intro w hSw
    go_simp
    try with_reducible rfl
  simp only [Act.put, List.getElem_toArray, List.getElem_cons_zero, List.getElem_cons_succ, List.setIfInBounds_toArray, List.set_cons_zero, List.set_cons_succ]
  refine wpAnyH_done (by kernel_rfl) ?_ _
  go_wp2
  go_ret
  exact ⟨rfl, bthen B5.out hHeld.1⟩

end Go.Proofs.YtccfhegckdmanaaDoor

/-
  New, Len, first, Next of the document's timer.
-/
import Derived.Test.YtoajgacofmodoaaTmR
namespace Go.Proofs.Ytoajgacofmodoaa
open Go.RowKit
set_option linter.unusedVariables false

set_option maxHeartbeats 3200000 in
set_option maxRecDepth 100000 in
theorem rnewT_any (w : World) : Calls Try.prog 20 #[] w fun e w' => ∃ p, e = .returned (.pointer (some ⟨p, 0, none⟩)) ∧ w.heap.size ≤ p ∧ DTm w' p [] ∧ Below w.heap.size w w' := by
  go_enter Try.func20, Try.ntmps20
  go_wp2
  go_ret
  exact ⟨_, rfl, Nat.le_refl _, ⟨_, heap_alloc_new w _, ⟨rfl, .inl ⟨rfl, rfl⟩⟩⟩, bnew w _⟩

set_option maxHeartbeats 3200000 in
set_option maxRecDepth 100000 in
theorem rlenT_any {w : World} {p : Nat} {L : List Alm} (h : DTm w p L) : Calls Try.prog 25 #[.pointer (some ⟨p, 0, none⟩)] w fun e w' => e = .returned (.int .i64 (L.length : Int)) ∧ w' = w := by
  obtain ⟨v, h1, h2⟩ := h
  obtain ⟨a, c, rfl, -⟩ := own_slice h2
  have c0 := cell_one h1
  go_enter Try.func25, Try.ntmps25
  go_wp2
  go_ret
  exact ⟨rfl, rfl⟩

theorem alt_dec {a b : Alm} (h : a.2 < b.2) : decide (alt a b) = true := by rw [decide_eq_true_iff, alt_iff]; exact .inl h
theorem alt_no {a b : Alm} (h : b.2 < a.2) : decide (alt a b) = false := by rw [decide_eq_false_iff_not, alt_iff]; omega
set_option maxHeartbeats 3200000 in
set_option maxRecDepth 100000 in
theorem rfirst_any (a l n t b m k s : Int) (w : World) : Calls Try.prog 31 #[.agg #[.int .i64 a, .int .i64 l, .int .i64 n, .int .i64 t], .agg #[.int .i64 b, .int .i64 m, .int .i64 k, .int .i64 s]] w fun e w' => e = .returned (.bool (decide (alt ((a, l, n), t) ((b, m, k), s)))) ∧ Below w.heap.size w w' := by
  obtain ⟨V, hV⟩ : ∃ V, ((w.alloc (.cells #[.int .i64 a, .int .i64 l, .int .i64 n, .int .i64 t] 57)).alloc (.cells #[.int .i64 b, .int .i64 m, .int .i64 k, .int .i64 s] 57)) = V := ⟨_, rfl⟩
  have BV := aside (show Below w.heap.size w V from by rw [← hV]; exact bthen (bnew w _) (bnew _ _))
  rw [← hV] at BV
  clear hV
  rcases Int.lt_trichotomy t s with h | h | h
  · have h2 : ¬ t = s := by omega
    have h3 : (t == s) = false := by simp; omega
    go_enter Try.func31, Try.ntmps31
    go_wp2
    go_ret
    exact ⟨ret_bool (alt_dec h).symm, BV.out⟩
  · subst h
    have AC := aside (acmp_eq (a, l, n) (b, m, k) t)
    obtain ⟨c, hc⟩ : ∃ c, Nm.cmp a l n b m k = c := ⟨_, rfl⟩
    have HC := aside (show acmp ((a, l, n), t) ((b, m, k), t) = c from by rw [AC.out]; exact hc)
    by_cases hl : c < 0
    · have FN := aside (show (decide (alt ((a, l, n), t) ((b, m, k), t))) = true from by rw [decide_eq_true_iff]; unfold alt; rw [HC.out]; exact hl)
      go_enter Try.func31, Try.ntmps31
      go_wp2_with fail
      refine (ncmpR_at hc _).mono ?_
      rintro e w1 ⟨rfl, b1⟩
      have B1 := aside (bthen BV.out b1)
      clear b1
      go_wp2
      go_ret
      exact ⟨ret_bool (by rw [FN.out] <;> first | rfl | simpa using hl), B1.out⟩
    · have FN := aside (show (decide (alt ((a, l, n), t) ((b, m, k), t))) = false from by rw [decide_eq_false_iff_not]; unfold alt; rw [HC.out]; exact hl)
      go_enter Try.func31, Try.ntmps31
      go_wp2_with fail
      refine (ncmpR_at hc _).mono ?_
      rintro e w1 ⟨rfl, b1⟩
      have B1 := aside (bthen BV.out b1)
      clear b1
      go_wp2
      go_ret
      exact ⟨ret_bool (by rw [FN.out] <;> first | rfl | simpa using hl), B1.out⟩
  · have h2 : ¬ t = s := by omega
    have h3 : (t == s) = false := by simp; omega
    have h4 : ¬ t < s := by omega
    go_enter Try.func31, Try.ntmps31
    go_wp2
    go_ret
    exact ⟨ret_bool (alt_no h).symm, BV.out⟩

set_option maxHeartbeats 3200000 in
set_option maxRecDepth 100000 in
theorem rnextT_any {w : World} {p : Nat} {L : List Alm} (h : DTm w p L) : Calls Try.prog 24 #[.pointer (some ⟨p, 0, none⟩)] w fun e w' => e = .returned (nextV L) ∧ Below w.heap.size w w' := by
  obtain ⟨v, h1, h2⟩ := h
  obtain ⟨V, hV⟩ : ∃ V, w.alloc (.cells #[.int .i64 0, .int .i64 0, .int .i64 0] 29) = V := ⟨_, rfl⟩
  obtain ⟨q0, hq0⟩ : ∃ q, w.heap.size = q := ⟨_, rfl⟩
  have BV := aside (show Below w.heap.size w V from by rw [← hV]; exact bnew w _)
  have KQ := aside (show V.heap[q0]? = some (.cells #[.int .i64 0, .int .i64 0, .int .i64 0] 29 (0, 0)) from by rw [← hV, ← hq0]; exact heap_alloc_new w _)
  have LQ := aside (show q0 < V.heap.size from by rw [← hV, ← hq0]; simp)
  have H1 := aside (blk_on h1 BV.out)
  have H2 := aside (own_on h2 BV.out)
  have PL := aside (lt_of_blk h1)
  have RL := aside (fun g c (e : v = .slice (some ⟨g, 0, none⟩) L.length c) => (show g < w.heap.size from by rw [e] at h2; exact (h2.lt g rfl).2))
  have HQ := aside hq0
  clear h1 h2
  obtain ⟨z0, z1, z2⟩ := tri3 KQ.out
  have y0 := frozen_of_row _ _ 0 _ _ KQ.out
  have y1 := frozen_of_row _ _ 1 _ _ KQ.out
  have y2 := frozen_of_row _ _ 2 _ _ KQ.out
  cases L with
  | nil =>
    obtain ⟨a, c, rfl, -⟩ := own_slice H2.out
    rw [show ([] : List Alm).length = 0 from rfl] at H1
    have c0 := cell_one H1.out
    have KF := set_tri (w := V) KQ.out (.int .i64 0) (.int .i64 0) (.int .i64 0)
    have BF := aside (show Below q0 w _ from (by have := BV.out; rw [hq0] at this; exact this : Below q0 w V).trans ((keeps_tri V q0 (.int .i64 0) (.int .i64 0) (.int .i64 0)).below (B := q0) (by have := LQ.out; omega) (fun k hk => by omega)))
    go_enter Try.func24, Try.ntmps24
    go_wp2
    obtain ⟨f0, f1, f2⟩ := tri3 KF
    exact bodyPost_ret (v := .tuple #[.agg #[.int .i64 0, .int .i64 0, .int .i64 0], .int .i64 0, .bool false]) (by simp [results, Try.results24, go_sem, f0, f1, f2]) rfl ⟨rfl, by rw [HQ.out]; exact BF.out⟩
  | cons y r =>
    obtain ⟨⟨yo, yl, yk⟩, yt⟩ := y
    rw [List.length_cons] at H2 RL
    obtain ⟨a, c, rfl, hc1, hc2, ⟨-, h0, -⟩ | ⟨g, rfl, -, -⟩⟩ := own_slice H2.out
    · omega
    have c0 := cell_one H1.out
    have hr : (0 : Int) < ((r.length + 1 : Nat) : Int) := by omega
    have hr2 : ((r.length : Int) + 1 == 0) = false := by simp; omega
    have hr3 : ¬ (r.length : Int) + 1 = 0 := by omega
    have hrm : ((r.length + 1 : Nat) : Int) ≤ 9223372036854775807 := by unfold maxLen at hc2; omega
    have AC := aside (al_cells H2.out (i := 0) rfl)
    have GL := aside (RL.out g c rfl)
    have SX := aside (fun W (bb : Keeps (fun x => x = q0) V W) => (show W.cell? ⟨p, 0, none⟩ = some (.slice (some ⟨g, 0, none⟩) (r.length + 1) c) ∧ W.cell? ⟨g, 0, none⟩ = some (.int .i64 yo) ∧ W.cell? ⟨g, 1, none⟩ = some (.int .i64 yl) ∧ W.cell? ⟨g, 2, none⟩ = some (.int .i64 yk) ∧ W.cell? ⟨g, 3, none⟩ = some (.int .i64 yt) from by
      obtain ⟨a0, a1, a2, a3⟩ := AC.out
      have gv : g < V.heap.size := by have := GL.out; have := BV.out.size; omega
      have gq : ¬ g = q0 := by have := GL.out; have := HQ.out; omega
      refine ⟨cell_one (blk_keep H1.out bb (by have := PL.out; have := HQ.out; omega)), ?_, ?_, ?_, ?_⟩
      · rw [bb.cell gv gq]; simpa using a0
      · rw [bb.cell gv gq]; simpa using a1
      · rw [bb.cell gv gq]; simpa using a2
      · rw [bb.cell gv gq]; simpa using a3))
    go_enter Try.func24, Try.ntmps24
    go_wp2_with fail
    refine wp_region_held_drew (S := fun W => (W.cell? ⟨p, 0, none⟩ = some (.slice (some ⟨g, 0, none⟩) (r.length + 1) c) ∧ W.cell? ⟨g, 0, none⟩ = some (.int .i64 yo) ∧ W.cell? ⟨g, 1, none⟩ = some (.int .i64 yl) ∧ W.cell? ⟨g, 2, none⟩ = some (.int .i64 yk) ∧ W.cell? ⟨g, 3, none⟩ = some (.int .i64 yt)) ∧ Hid (Keeps (fun x => x = q0) V W)) (by kernel_rfl) ⟨SX.out _ (Keeps.refl _ V).drew, aside (Keeps.refl _ V).drew⟩ (fun hHeld => ?_)
    refine wpAnyH_take (i := 0) (v := ?_) rfl (by kernel_rfl) (by kernel_rfl) (by kernel_rfl) (fun _ _ _ h => h) (Or.inl ⟨by rfl, ?_⟩) (by assumption) ?_
    rotate_left
    · intro w hSw
      go_simp
      try with_reducible rfl
    simp only [Act.put, List.getElem_toArray, List.getElem_cons_zero, List.setIfInBounds_toArray, List.set_cons_zero, List.set_cons_succ]
    refine wpAnyH_take (i := 1) (v := ?_) rfl (by kernel_rfl) (by kernel_rfl) (by kernel_rfl) (fun _ _ _ h => h) (Or.inl ⟨by rfl, ?_⟩) (by assumption) ?_
    rotate_left
    · intro w hSw
      go_simp
      try with_reducible rfl
    simp only [Act.put, List.getElem_toArray, List.getElem_cons_zero, List.getElem_cons_succ, List.setIfInBounds_toArray, List.set_cons_zero, List.set_cons_succ]
    refine wpAnyH_take (i := 2) (v := ?_) rfl (by kernel_rfl) (by kernel_rfl) (by kernel_rfl) (fun _ _ _ h => h) (Or.inl ⟨by rfl, ?_⟩) (by assumption) ?_
    rotate_left
    · intro w hSw
      go_simp
      try with_reducible rfl
    simp only [Act.put, List.getElem_toArray, List.getElem_cons_zero, List.getElem_cons_succ, List.setIfInBounds_toArray, List.set_cons_zero, List.set_cons_succ]
    refine wpAnyH_take (i := 3) (v := ?_) rfl (by kernel_rfl) (by kernel_rfl) (by kernel_rfl) (fun _ _ _ h => h) (Or.inl ⟨by rfl, ?_⟩) (by assumption) ?_
    rotate_left
    · intro w hSw
      go_simp
      try with_reducible rfl
    simp only [Act.put, List.getElem_toArray, List.getElem_cons_zero, List.getElem_cons_succ, List.setIfInBounds_toArray, List.set_cons_zero, List.set_cons_succ]
    refine wpAnyH_take (i := 4) (v := ?_) rfl (by kernel_rfl) (by kernel_rfl) (by kernel_rfl) (fun _ _ _ h => h) (Or.inl ⟨by rfl, ?_⟩) (by assumption) ?_
    rotate_left
    · intro w hSw
      go_simp
      try with_reducible rfl
    simp only [Act.put, List.getElem_toArray, List.getElem_cons_zero, List.getElem_cons_succ, List.setIfInBounds_toArray, List.set_cons_zero, List.set_cons_succ]
    refine wpAnyH_take (i := 5) (v := ?_) rfl (by kernel_rfl) (by kernel_rfl) (by kernel_rfl) (fun _ _ _ h => h) (Or.inl ⟨by rfl, ?_⟩) (by assumption) ?_
    rotate_left
    · intro w hSw
      go_simp
      try with_reducible rfl
    simp only [Act.put, List.getElem_toArray, List.getElem_cons_zero, List.getElem_cons_succ, List.setIfInBounds_toArray, List.set_cons_zero, List.set_cons_succ]
    refine wpAnyH_take (i := 6) (v := ?_) rfl (by kernel_rfl) (by kernel_rfl) (by kernel_rfl) (fun _ _ _ h => h) (Or.inl ⟨by rfl, ?_⟩) (by assumption) ?_
    rotate_left
    · intro w hSw
      go_simp
      try with_reducible rfl
    simp only [Act.put, List.getElem_toArray, List.getElem_cons_zero, List.getElem_cons_succ, List.setIfInBounds_toArray, List.set_cons_zero, List.set_cons_succ]
    refine wpAnyH_take (i := 7) (v := ?_) rfl (by kernel_rfl) (by kernel_rfl) (by kernel_rfl) (fun _ _ _ h => h) (Or.inl ⟨by rfl, ?_⟩) (by assumption) ?_
    rotate_left
    · intro w hSw
      go_simp
      try with_reducible rfl
    simp only [Act.put, List.getElem_toArray, List.getElem_cons_zero, List.getElem_cons_succ, List.setIfInBounds_toArray, List.set_cons_zero, List.set_cons_succ]
    refine wpAnyH_take (i := 8) (v := ?_) rfl (by kernel_rfl) (by kernel_rfl) (by kernel_rfl) (fun _ _ _ h => h) (Or.inl ⟨by rfl, ?_⟩) (by assumption) ?_
    rotate_left
    · intro w hSw
      go_simp
      try with_reducible rfl
    simp only [Act.put, List.getElem_toArray, List.getElem_cons_zero, List.getElem_cons_succ, List.setIfInBounds_toArray, List.set_cons_zero, List.set_cons_succ]
    refine wpAnyH_take (i := 9) (v := ?_) rfl (by kernel_rfl) (by kernel_rfl) (by kernel_rfl) (fun _ _ _ h => h) (Or.inl ⟨by rfl, ?_⟩) (by assumption) ?_
    rotate_left
    · intro w hSw
      go_simp
      try with_reducible rfl
    simp only [Act.put, List.getElem_toArray, List.getElem_cons_zero, List.getElem_cons_succ, List.setIfInBounds_toArray, List.set_cons_zero, List.set_cons_succ]
    refine wpAnyH_take (i := 10) (v := ?_) rfl (by kernel_rfl) (by kernel_rfl) (by kernel_rfl) (fun _ _ _ h => h) (Or.inl ⟨by rfl, ?_⟩) (by assumption) ?_
    rotate_left
    · intro w hSw
      go_simp
      try with_reducible rfl
    simp only [Act.put, List.getElem_toArray, List.getElem_cons_zero, List.getElem_cons_succ, List.setIfInBounds_toArray, List.set_cons_zero, List.set_cons_succ]
    refine wpAnyH_take (i := 11) (v := ?_) rfl (by kernel_rfl) (by kernel_rfl) (by kernel_rfl) (fun _ _ _ h => h) (Or.inl ⟨by rfl, ?_⟩) (by assumption) ?_
    rotate_left
    · intro w hSw
      go_simp
      try with_reducible rfl
    simp only [Act.put, List.getElem_toArray, List.getElem_cons_zero, List.getElem_cons_succ, List.setIfInBounds_toArray, List.set_cons_zero, List.set_cons_succ]
    refine wpAnyH_take (i := 12) (v := ?_) rfl (by kernel_rfl) (by kernel_rfl) (by kernel_rfl) (fun _ _ _ h => h) (Or.inl ⟨by rfl, ?_⟩) (by assumption) ?_
    rotate_left
    · intro w hSw
      go_simp
      try with_reducible rfl
    simp only [Act.put, List.getElem_toArray, List.getElem_cons_zero, List.getElem_cons_succ, List.setIfInBounds_toArray, List.set_cons_zero, List.set_cons_succ]
    refine wpAnyH_take (i := 13) (v := ?_) rfl (by kernel_rfl) (by kernel_rfl) (by kernel_rfl) (fun _ _ _ h => h) (Or.inl ⟨by rfl, ?_⟩) (by assumption) ?_
    rotate_left
    · intro w hSw
      go_simp
      try with_reducible rfl
    simp only [Act.put, List.getElem_toArray, List.getElem_cons_zero, List.getElem_cons_succ, List.setIfInBounds_toArray, List.set_cons_zero, List.set_cons_succ]
    refine wpAnyH_ready (rs := [14]) (by kernel_rfl) (by simp) ?_
    refine AllReadyH.cons rfl (fun K hK => ?_) AllReadyH.nil
    go_simp
    refine hK.out _ _ (⟨SX.out _ ((Keeps.refl _ V).drew.trans (keeps_tri V.drew q0 (.int .i64 yo) (.int .i64 yl) (.int .i64 yk))), aside ((Keeps.refl _ V).drew.trans (keeps_tri V.drew q0 (.int .i64 yo) (.int .i64 yl) (.int .i64 yk)))⟩) (fun hHeld => ?_)
    clear hK K 
    refine wpAnyH_take (i := 15) (v := ?_) rfl (by kernel_rfl) (by kernel_rfl) (by kernel_rfl) (fun _ _ _ h => h) (Or.inl ⟨by rfl, ?_⟩) (by assumption) ?_
    rotate_left
    · intro w hSw
      go_simp
      try with_reducible rfl
    simp only [Act.put, List.getElem_toArray, List.getElem_cons_zero, List.getElem_cons_succ, List.setIfInBounds_toArray, List.set_cons_zero, List.set_cons_succ]
    refine wpAnyH_take (i := 16) (v := ?_) rfl (by kernel_rfl) (by kernel_rfl) (by kernel_rfl) (fun _ _ _ h => h) (Or.inl ⟨by rfl, ?_⟩) (by assumption) ?_
    rotate_left
    · intro w hSw
      go_simp
      try with_reducible rfl
    simp only [Act.put, List.getElem_toArray, List.getElem_cons_zero, List.getElem_cons_succ, List.setIfInBounds_toArray, List.set_cons_zero, List.set_cons_succ]
    refine wpAnyH_done (by kernel_rfl) ?_ _
    have KF := set_tri (w := V) KQ.out (.int .i64 yo) (.int .i64 yl) (.int .i64 yk)
    have BF := aside (show Below q0 w _ from ((by have := BV.out; rw [HQ.out] at this; exact this : Below q0 w V).trans ((keeps_tri V q0 (.int .i64 yo) (.int .i64 yl) (.int .i64 yk)).below (B := q0) (by have := LQ.out; omega) (fun k hk => by omega))).drew)
    clear hHeld SX
    go_wp2
    obtain ⟨f0, f1, f2⟩ := tri3 KF
    exact bodyPost_ret (v := .tuple #[.agg #[.int .i64 yo, .int .i64 yl, .int .i64 yk], .int .i64 yt, .bool true]) (by simp [results, Try.results24, go_sem, f0, f1, f2]) rfl ⟨rfl, by rw [HQ.out]; exact BF.out⟩

theorem name_binE_same (a l n : Int) (w : World) : (binOp .eql 29 (.agg #[.int .i64 a, .int .i64 l, .int .i64 n]) (.agg #[.int .i64 a, .int .i64 l, .int .i64 n])).run Try.prog w = .ok (.bool true) w := by rw [name_run]; simp
theorem name_binE_not {a l n b m k : Int} (h : ¬ ((a, l, n) : Nam) = (b, m, k)) (w : World) : (binOp .eql 29 (.agg #[.int .i64 a, .int .i64 l, .int .i64 n]) (.agg #[.int .i64 b, .int .i64 m, .int .i64 k])).run Try.prog w = .ok (.bool false) w := by
  rw [name_run]
  have : (a == b && (l == m && n == k)) = false := by
    cases hh : (a == b && (l == m && n == k)) with
    | false => rfl
    | true => simp at hh; exact absurd (by rw [hh.1, hh.2.1, hh.2.2]) h
  rw [this]
theorem name_binN_same (a l n : Int) (w : World) : (binOp .neq 29 (.agg #[.int .i64 a, .int .i64 l, .int .i64 n]) (.agg #[.int .i64 a, .int .i64 l, .int .i64 n])).run Try.prog w = .ok (.bool false) w := by
  rw [run_neq_struct, show (10000 : Nat) = 9999 + 1 from rfl]
  go_simp
theorem name_binN_not {a l n b m k : Int} (h : ¬ ((a, l, n) : Nam) = (b, m, k)) (w : World) : (binOp .neq 29 (.agg #[.int .i64 a, .int .i64 l, .int .i64 n]) (.agg #[.int .i64 b, .int .i64 m, .int .i64 k])).run Try.prog w = .ok (.bool true) w := by
  rw [run_neq_struct, show (10000 : Nat) = 9999 + 1 from rfl]
  go_simp
  by_cases h1 : a = b <;> by_cases h2 : l = m <;> by_cases h3 : n = k <;> simp [h1, h2, h3]
  exact h (by rw [h1, h2, h3])
theorem look_upto {L : List Alm} {n : Nam} (h : ∀ j a, j < L.length → L[j]? = some a → a.1 ≠ n) : lookA n L = none := by
  cases hl : lookA n L with
  | none => rfl
  | some t =>
    obtain ⟨j, hj, e⟩ := List.mem_iff_getElem.1 (lookA_mem hl)
    exact absurd rfl (h j (n, t) hj (by rw [List.getElem?_eq_getElem hj, e]))
set_option maxHeartbeats 6400000 in
set_option maxRecDepth 100000 in
theorem ratT_any {w : World} {p : Nat} {L : List Alm} (o l k9 : Int) (h : DTm w p L) (hg : Gl L) : Calls Try.prog 23 #[.pointer (some ⟨p, 0, none⟩), .agg #[.int .i64 o, .int .i64 l, .int .i64 k9]] w fun e w' => e = .returned (.tuple #[.int .i64 ((lookA (o, l, k9) L).getD 0), .bool (lookA (o, l, k9) L).isSome]) ∧ Below w.heap.size w w' := by
  have HG := aside hg
  clear hg
  obtain ⟨v, h1, h2⟩ := h
  obtain ⟨V, hV⟩ : ∃ V, w.alloc (.cells #[.int .i64 o, .int .i64 l, .int .i64 k9] 29) = V := ⟨_, rfl⟩
  obtain ⟨q, hq⟩ : ∃ q, w.heap.size = q := ⟨_, rfl⟩
  have BV := aside (show Below w.heap.size w V from by rw [← hV]; exact bnew w _)
  have KQ := aside (show V.heap[q]? = some (.cells #[.int .i64 o, .int .i64 l, .int .i64 k9] 29 (0, 0)) from by rw [← hV, ← hq]; exact heap_alloc_new w _)
  have H1 := aside (blk_on h1 BV.out)
  have H2 := aside (own_on h2 BV.out)
  have HQ := aside hq
  obtain ⟨a, c, rfl, hc1, hc2, hac⟩ := own_slice h2
  have hmx : (L.length : Int) ≤ 9223372036854775807 := by unfold maxLen at hc2; omega
  clear h1 h2 hc1 hc2
  go_enter Try.func23, Try.ntmps23
  go_wp2
  try rw [hV]
  go_loopw [6] (fun i wr => ∃ k : Nat, i = .int .i64 (k : Int) ∧ k ≤ L.length ∧ Hid (∀ j a, j < k → L[j]? = some a → a.1 ≠ (o, l, k9)) ∧ Hid (Below V.heap.size V wr)) (fun i _ => L.length - (intOf i).toNat)
  case atStart => exact ⟨0, rfl, Nat.zero_le _, (fun j a hj => by omega), Below.refl _ _⟩
  case round =>
    obtain ⟨k, rfl, hk, HNO, HB⟩ := hrel
    have c0 := cell_one (blk_on H1.out HB.out)
    by_cases hlk : (k : Int) < (L.length : Int)
    · have hk0 : (0 : Int) ≤ (k : Int) := by omega
      obtain ⟨y, hy⟩ : ∃ y, L[k]? = some y := ⟨L[k]'(by omega), List.getElem?_eq_getElem _⟩
      obtain ⟨⟨yo, yl, yk⟩, yt⟩ := y
      have HY := aside hy
      rcases hac with ⟨-, h0, -⟩ | ⟨g, rfl, -, -⟩
      · omega
      have SX := aside (fun W (bb : Below wr.heap.size wr W) => (show (W.cell? ⟨p, 0, none⟩ = some (.slice (some ⟨g, 0, none⟩) L.length c) ∧ W.cell? ⟨q, 0, none⟩ = some (.int .i64 o) ∧ W.cell? ⟨q, 1, none⟩ = some (.int .i64 l) ∧ W.cell? ⟨q, 2, none⟩ = some (.int .i64 k9)) ∧ (W.cell? ⟨g, k * 4, none⟩ = some (.int .i64 yo) ∧ W.cell? ⟨g, k * 4 + 1, none⟩ = some (.int .i64 yl) ∧ W.cell? ⟨g, k * 4 + 2, none⟩ = some (.int .i64 yk) ∧ W.cell? ⟨g, k * 4 + 3, none⟩ = some (.int .i64 yt)) from by
        have bw := bthen HB.out bb
        obtain ⟨n0, n1, n2⟩ := tri3 (blk_on KQ.out bw)
        exact ⟨⟨cell_one (blk_on H1.out bw), n0, n1, n2⟩, al_cells (own_on H2.out bw) HY.out⟩))
      clear hy
      by_cases hne : ((yo, yl, yk) : Nam) = (o, l, k9)
      · injection hne with e1 e2
        injection e2 with e2 e3
        subst e1 e2 e3
        have HLK := aside (HG.out.look (n := (yo, yl, yk)) (t := yt) (List.mem_of_getElem? HY.out))
        have EQ : ∀ W, (binOp .eql 29 (.agg #[.int .i64 yo, .int .i64 yl, .int .i64 yk]) (.agg #[.int .i64 yo, .int .i64 yl, .int .i64 yk])).run Try.prog W = .ok (.bool true) W := fun W => name_binE_same yo yl yk W
        go_wp2_with fail
        refine wp_region_held_drew (S := fun W => ((W.cell? ⟨p, 0, none⟩ = some (.slice (some ⟨g, 0, none⟩) L.length c) ∧ W.cell? ⟨q, 0, none⟩ = some (.int .i64 yo) ∧ W.cell? ⟨q, 1, none⟩ = some (.int .i64 yl) ∧ W.cell? ⟨q, 2, none⟩ = some (.int .i64 yk)) ∧ (W.cell? ⟨g, k * 4, none⟩ = some (.int .i64 yo) ∧ W.cell? ⟨g, k * 4 + 1, none⟩ = some (.int .i64 yl) ∧ W.cell? ⟨g, k * 4 + 2, none⟩ = some (.int .i64 yk) ∧ W.cell? ⟨g, k * 4 + 3, none⟩ = some (.int .i64 yt))) ∧ Below wr.heap.size wr W) (by kernel_rfl) ⟨SX.out _ (Below.refl _ wr).drew, (Below.refl _ wr).drew⟩ (fun hHeld => ?_)
        refine wpAnyH_take (i := 0) (v := ?_) rfl (by kernel_rfl) (by kernel_rfl) (by kernel_rfl) (fun _ _ _ h => h) (Or.inl ⟨by rfl, ?_⟩) (by assumption) ?_
        rotate_left
        · intro w hSw
          go_simp
          try with_reducible rfl
        simp only [Act.put, List.getElem_toArray, List.getElem_cons_zero, List.setIfInBounds_toArray, List.set_cons_zero, List.set_cons_succ]
        refine wpAnyH_take (i := 1) (v := ?_) rfl (by kernel_rfl) (by kernel_rfl) (by kernel_rfl) (fun _ _ _ h => h) (Or.inl ⟨by rfl, ?_⟩) (by assumption) ?_
        rotate_left
        · intro w hSw
          go_simp
          try with_reducible rfl
        simp only [Act.put, List.getElem_toArray, List.getElem_cons_zero, List.getElem_cons_succ, List.setIfInBounds_toArray, List.set_cons_zero, List.set_cons_succ]
        refine wpAnyH_take (i := 2) (v := ?_) rfl (by kernel_rfl) (by kernel_rfl) (by kernel_rfl) (fun _ _ _ h => h) (Or.inl ⟨by rfl, ?_⟩) (by assumption) ?_
        rotate_left
        · intro w hSw
          go_simp
          try with_reducible rfl
        simp only [Act.put, List.getElem_toArray, List.getElem_cons_zero, List.getElem_cons_succ, List.setIfInBounds_toArray, List.set_cons_zero, List.set_cons_succ]
        refine wpAnyH_take (i := 3) (v := ?_) rfl (by kernel_rfl) (by kernel_rfl) (by kernel_rfl) (fun _ _ _ h => h) (Or.inl ⟨by rfl, ?_⟩) (by assumption) ?_
        rotate_left
        · intro w hSw
          go_simp
          try with_reducible rfl
        simp only [Act.put, List.getElem_toArray, List.getElem_cons_zero, List.getElem_cons_succ, List.setIfInBounds_toArray, List.set_cons_zero, List.set_cons_succ]
        refine wpAnyH_take (i := 4) (v := ?_) rfl (by kernel_rfl) (by kernel_rfl) (by kernel_rfl) (fun _ _ _ h => h) (Or.inl ⟨by rfl, ?_⟩) (by assumption) ?_
        rotate_left
        · intro w hSw
          go_simp
          try with_reducible rfl
        simp only [Act.put, List.getElem_toArray, List.getElem_cons_zero, List.getElem_cons_succ, List.setIfInBounds_toArray, List.set_cons_zero, List.set_cons_succ]
        refine wpAnyH_take (i := 5) (v := ?_) rfl (by kernel_rfl) (by kernel_rfl) (by kernel_rfl) (fun _ _ _ h => h) (Or.inl ⟨by rfl, ?_⟩) (by assumption) ?_
        rotate_left
        · intro w hSw
          go_simp
          try with_reducible rfl
        simp only [Act.put, List.getElem_toArray, List.getElem_cons_zero, List.getElem_cons_succ, List.setIfInBounds_toArray, List.set_cons_zero, List.set_cons_succ]
        refine wpAnyH_take (i := 6) (v := ?_) rfl (by kernel_rfl) (by kernel_rfl) (by kernel_rfl) (fun _ _ _ h => h) (Or.inl ⟨by rfl, ?_⟩) (by assumption) ?_
        rotate_left
        · intro w hSw
          go_simp
          try with_reducible rfl
        simp only [Act.put, List.getElem_toArray, List.getElem_cons_zero, List.getElem_cons_succ, List.setIfInBounds_toArray, List.set_cons_zero, List.set_cons_succ]
        refine wpAnyH_take (i := 7) (v := ?_) rfl (by kernel_rfl) (by kernel_rfl) (by kernel_rfl) (fun _ _ _ h => h) (Or.inl ⟨by rfl, ?_⟩) (by assumption) ?_
        rotate_left
        · intro w hSw
          go_simp
          try with_reducible rfl
        simp only [Act.put, List.getElem_toArray, List.getElem_cons_zero, List.getElem_cons_succ, List.setIfInBounds_toArray, List.set_cons_zero, List.set_cons_succ]
        refine wpAnyH_take (i := 8) (v := ?_) rfl (by kernel_rfl) (by kernel_rfl) (by kernel_rfl) (fun _ _ _ h => h) (Or.inl ⟨by rfl, ?_⟩) (by assumption) ?_
        rotate_left
        · intro w hSw
          go_simp
          try with_reducible rfl
        simp only [Act.put, List.getElem_toArray, List.getElem_cons_zero, List.getElem_cons_succ, List.setIfInBounds_toArray, List.set_cons_zero, List.set_cons_succ]
        refine wpAnyH_take (i := 9) (v := .bool true) rfl (by kernel_rfl) (by kernel_rfl) (by kernel_rfl) (fun _ _ _ h => h) (Or.inl ⟨by rfl, ?_⟩) (by assumption) ?_
        · intro w hSw
          go_simp
          try exact EQ _
        simp only [Act.put, List.getElem_toArray, List.getElem_cons_zero, List.getElem_cons_succ, List.setIfInBounds_toArray, List.set_cons_zero, List.set_cons_succ]
        refine wpAnyH_done (by kernel_rfl) ?_ _
        have B9 := aside (bthen HB.out hHeld.2)
        have SY := aside (SX.out _ (Below.refl _ wr).drew)
        clear hHeld SX
        obtain ⟨⟨s0, s1, s2, s3⟩, s4, s5, s6, s7⟩ := SY.out
        go_wp2
        go_ret2
        exact ⟨by rw [HLK.out]; rfl, by first | exact bthen BV.out B9.out | (rw [← HQ.out]; exact bthen BV.out B9.out)⟩
      · skip
        have EQ : ∀ W, (binOp .eql 29 (.agg #[.int .i64 yo, .int .i64 yl, .int .i64 yk]) (.agg #[.int .i64 o, .int .i64 l, .int .i64 k9])).run Try.prog W = .ok (.bool false) W := fun W => name_binE_not hne W
        go_wp2_with fail
        refine wp_region_held_drew (S := fun W => ((W.cell? ⟨p, 0, none⟩ = some (.slice (some ⟨g, 0, none⟩) L.length c) ∧ W.cell? ⟨q, 0, none⟩ = some (.int .i64 o) ∧ W.cell? ⟨q, 1, none⟩ = some (.int .i64 l) ∧ W.cell? ⟨q, 2, none⟩ = some (.int .i64 k9)) ∧ (W.cell? ⟨g, k * 4, none⟩ = some (.int .i64 yo) ∧ W.cell? ⟨g, k * 4 + 1, none⟩ = some (.int .i64 yl) ∧ W.cell? ⟨g, k * 4 + 2, none⟩ = some (.int .i64 yk) ∧ W.cell? ⟨g, k * 4 + 3, none⟩ = some (.int .i64 yt))) ∧ Below wr.heap.size wr W) (by kernel_rfl) ⟨SX.out _ (Below.refl _ wr).drew, (Below.refl _ wr).drew⟩ (fun hHeld => ?_)
        refine wpAnyH_take (i := 0) (v := ?_) rfl (by kernel_rfl) (by kernel_rfl) (by kernel_rfl) (fun _ _ _ h => h) (Or.inl ⟨by rfl, ?_⟩) (by assumption) ?_
        rotate_left
        · intro w hSw
          go_simp
          try with_reducible rfl
        simp only [Act.put, List.getElem_toArray, List.getElem_cons_zero, List.setIfInBounds_toArray, List.set_cons_zero, List.set_cons_succ]
        refine wpAnyH_take (i := 1) (v := ?_) rfl (by kernel_rfl) (by kernel_rfl) (by kernel_rfl) (fun _ _ _ h => h) (Or.inl ⟨by rfl, ?_⟩) (by assumption) ?_
        rotate_left
        · intro w hSw
          go_simp
          try with_reducible rfl
        simp only [Act.put, List.getElem_toArray, List.getElem_cons_zero, List.getElem_cons_succ, List.setIfInBounds_toArray, List.set_cons_zero, List.set_cons_succ]
        refine wpAnyH_take (i := 2) (v := ?_) rfl (by kernel_rfl) (by kernel_rfl) (by kernel_rfl) (fun _ _ _ h => h) (Or.inl ⟨by rfl, ?_⟩) (by assumption) ?_
        rotate_left
        · intro w hSw
          go_simp
          try with_reducible rfl
        simp only [Act.put, List.getElem_toArray, List.getElem_cons_zero, List.getElem_cons_succ, List.setIfInBounds_toArray, List.set_cons_zero, List.set_cons_succ]
        refine wpAnyH_take (i := 3) (v := ?_) rfl (by kernel_rfl) (by kernel_rfl) (by kernel_rfl) (fun _ _ _ h => h) (Or.inl ⟨by rfl, ?_⟩) (by assumption) ?_
        rotate_left
        · intro w hSw
          go_simp
          try with_reducible rfl
        simp only [Act.put, List.getElem_toArray, List.getElem_cons_zero, List.getElem_cons_succ, List.setIfInBounds_toArray, List.set_cons_zero, List.set_cons_succ]
        refine wpAnyH_take (i := 4) (v := ?_) rfl (by kernel_rfl) (by kernel_rfl) (by kernel_rfl) (fun _ _ _ h => h) (Or.inl ⟨by rfl, ?_⟩) (by assumption) ?_
        rotate_left
        · intro w hSw
          go_simp
          try with_reducible rfl
        simp only [Act.put, List.getElem_toArray, List.getElem_cons_zero, List.getElem_cons_succ, List.setIfInBounds_toArray, List.set_cons_zero, List.set_cons_succ]
        refine wpAnyH_take (i := 5) (v := ?_) rfl (by kernel_rfl) (by kernel_rfl) (by kernel_rfl) (fun _ _ _ h => h) (Or.inl ⟨by rfl, ?_⟩) (by assumption) ?_
        rotate_left
        · intro w hSw
          go_simp
          try with_reducible rfl
        simp only [Act.put, List.getElem_toArray, List.getElem_cons_zero, List.getElem_cons_succ, List.setIfInBounds_toArray, List.set_cons_zero, List.set_cons_succ]
        refine wpAnyH_take (i := 6) (v := ?_) rfl (by kernel_rfl) (by kernel_rfl) (by kernel_rfl) (fun _ _ _ h => h) (Or.inl ⟨by rfl, ?_⟩) (by assumption) ?_
        rotate_left
        · intro w hSw
          go_simp
          try with_reducible rfl
        simp only [Act.put, List.getElem_toArray, List.getElem_cons_zero, List.getElem_cons_succ, List.setIfInBounds_toArray, List.set_cons_zero, List.set_cons_succ]
        refine wpAnyH_take (i := 7) (v := ?_) rfl (by kernel_rfl) (by kernel_rfl) (by kernel_rfl) (fun _ _ _ h => h) (Or.inl ⟨by rfl, ?_⟩) (by assumption) ?_
        rotate_left
        · intro w hSw
          go_simp
          try with_reducible rfl
        simp only [Act.put, List.getElem_toArray, List.getElem_cons_zero, List.getElem_cons_succ, List.setIfInBounds_toArray, List.set_cons_zero, List.set_cons_succ]
        refine wpAnyH_take (i := 8) (v := ?_) rfl (by kernel_rfl) (by kernel_rfl) (by kernel_rfl) (fun _ _ _ h => h) (Or.inl ⟨by rfl, ?_⟩) (by assumption) ?_
        rotate_left
        · intro w hSw
          go_simp
          try with_reducible rfl
        simp only [Act.put, List.getElem_toArray, List.getElem_cons_zero, List.getElem_cons_succ, List.setIfInBounds_toArray, List.set_cons_zero, List.set_cons_succ]
        refine wpAnyH_take (i := 9) (v := .bool false) rfl (by kernel_rfl) (by kernel_rfl) (by kernel_rfl) (fun _ _ _ h => h) (Or.inl ⟨by rfl, ?_⟩) (by assumption) ?_
        · intro w hSw
          go_simp
          try exact EQ _
        simp only [Act.put, List.getElem_toArray, List.getElem_cons_zero, List.getElem_cons_succ, List.setIfInBounds_toArray, List.set_cons_zero, List.set_cons_succ]
        refine wpAnyH_done (by kernel_rfl) ?_ _
        have B9 := aside (bthen HB.out hHeld.2)
        have SY := aside (SX.out _ (Below.refl _ wr).drew)
        clear hHeld SX
        go_wp2
        go_roundw
        case rel => exact ⟨k + 1, by go_num, by omega, (fun j a hj ha => by
          rcases Nat.lt_succ_iff_lt_or_eq.1 hj with h9 | h9
          · exact HNO.out j a h9 ha
          · subst h9; rw [HY.out] at ha; injection ha with ha; subst ha; exact hne), B9.out⟩
        case measure => simp [intOf] <;> omega
    · have HLK := aside (look_upto (L := L) (n := (o, l, k9)) (fun j a hj ha => HNO.out j a (by omega) ha))
      go_wp2
      go_ret2
      exact ⟨by rw [HLK.out]; rfl, by first | exact bthen BV.out HB.out | (rw [← HQ.out]; exact bthen BV.out HB.out)⟩

theorem al_news {w : World} {b : Nat} {o l k t : Int} (h : w.heap[b]? = some (.cells #[.int .i64 o, .int .i64 l, .int .i64 k, .int .i64 t] 57 (0, 0))) : ∀ (j : Nat) (u : Value), (alCells [((o, l, k), t)])[j]? = some u → w.cell? ((⟨b, 0, none⟩ : Addr).add j) = some u :=
  World.news_of_block (cs := #[.int .i64 o, .int .i64 l, .int .i64 k, .int .i64 t]) (t := 57) (fr := (0, 0)) h
theorem wo_snoc (n : Nam) (L : List Alm) (a : Alm) : wo n (L ++ [a]) = if a.1 = n then wo n L else wo n L ++ [a] := by
  unfold wo
  rw [List.filter_append]
  by_cases h : a.1 = n <;> simp [h]
theorem takeA_snoc {L : List Alm} {k : Nat} {a : Alm} (h : L[k]? = some a) : L.take (k + 1) = L.take k ++ [a] := by
  obtain ⟨hk, e⟩ := List.getElem?_eq_some_iff.1 h
  rw [← e, List.take_append_getElem hk]
set_option maxHeartbeats 6400000 in
set_option maxRecDepth 100000 in
theorem rwoT_any {w : World} {p : Nat} {L : List Alm} (o l k9 : Int) (h : DTm w p L) (hl : L.length ≤ 1000000) : Calls Try.prog 30 #[.pointer (some ⟨p, 0, none⟩), .agg #[.int .i64 o, .int .i64 l, .int .i64 k9]] w fun e w' => ∃ v, e = .returned v ∧ w'.ownsRow w.heap.size 57 4 v (wo (o, l, k9) L).length (alCells (wo (o, l, k9) L)) ∧ (∃ x c, v = .slice (some x) (wo (o, l, k9) L).length c) ∧ Below w.heap.size w w' := by
  have HL := aside hl
  clear hl
  obtain ⟨v, h1, h2⟩ := h
  obtain ⟨V, hV⟩ : ∃ V, w.alloc (.cells #[.int .i64 o, .int .i64 l, .int .i64 k9] 29) = V := ⟨_, rfl⟩
  obtain ⟨q, hq⟩ : ∃ q, w.heap.size = q := ⟨_, rfl⟩
  have BV := aside (show Below w.heap.size w V from by rw [← hV]; exact bnew w _)
  have KQ := aside (show V.heap[q]? = some (.cells #[.int .i64 o, .int .i64 l, .int .i64 k9] 29 (0, 0)) from by rw [← hV, ← hq]; exact heap_alloc_new w _)
  have H1 := aside (blk_on h1 BV.out)
  have H2 := aside (own_on h2 BV.out)
  have HQ := aside hq
  obtain ⟨a, c, rfl, hc1, hc2, hac⟩ := own_slice h2
  have hmx : (L.length : Int) ≤ 9223372036854775807 := by unfold maxLen at hc2; omega
  clear h1 h2 hc1 hc2
  have O0 := aside (show (V.alloc (.cells #[] 57)).ownsRow V.heap.size 57 4 (.slice (some ⟨V.heap.size, 0, none⟩) 0 0) 0 (alCells []) from ⟨rfl, .inr ⟨V.heap.size, 0, #[], rfl, Nat.le_refl _, heap_alloc_new V _, Nat.le_refl _, Nat.zero_le _, rfl, rfl⟩⟩)
  have BZ := aside (bnew V (.cells #[] 57))
  go_enter Try.func30, Try.ntmps30
  go_wp2
  try rw [hV]
  go_loopw [5, 6] (fun v i wr => ∃ k : Nat, i = .int .i64 (k : Int) ∧ k ≤ L.length ∧ Hid (wr.ownsRow V.heap.size 57 4 v (wo (o, l, k9) (L.take k)).length (alCells (wo (o, l, k9) (L.take k)))) ∧ Hid (∃ x c, v = .slice (some x) (wo (o, l, k9) (L.take k)).length c) ∧ Hid (Below V.heap.size V wr)) (fun v i _ => L.length - (intOf i).toNat)
  case atStart => exact ⟨0, rfl, Nat.zero_le _, O0.out, ⟨_, _, rfl⟩, BZ.out⟩
  case round =>
    clear O0 BZ
    obtain ⟨k, rfl, hk, HO, HX, HB⟩ := hrel
    have c0 := cell_one (blk_on H1.out HB.out)
    by_cases hlk : (k : Int) < (L.length : Int)
    · have hk0 : (0 : Int) ≤ (k : Int) := by omega
      obtain ⟨y, hy⟩ : ∃ y, L[k]? = some y := ⟨L[k]'(by omega), List.getElem?_eq_getElem _⟩
      obtain ⟨⟨yo, yl, yk⟩, yt⟩ := y
      have HY := aside hy
      rcases hac with ⟨-, h0, -⟩ | ⟨g, rfl, -, -⟩
      · omega
      have SX := aside (fun W (bb : Below wr.heap.size wr W) => (show (W.cell? ⟨p, 0, none⟩ = some (.slice (some ⟨g, 0, none⟩) L.length c) ∧ W.cell? ⟨q, 0, none⟩ = some (.int .i64 o) ∧ W.cell? ⟨q, 1, none⟩ = some (.int .i64 l) ∧ W.cell? ⟨q, 2, none⟩ = some (.int .i64 k9)) ∧ (W.cell? ⟨g, k * 4, none⟩ = some (.int .i64 yo) ∧ W.cell? ⟨g, k * 4 + 1, none⟩ = some (.int .i64 yl) ∧ W.cell? ⟨g, k * 4 + 2, none⟩ = some (.int .i64 yk) ∧ W.cell? ⟨g, k * 4 + 3, none⟩ = some (.int .i64 yt)) from by
        have bw := bthen HB.out bb
        obtain ⟨n0, n1, n2⟩ := tri3 (blk_on KQ.out bw)
        exact ⟨⟨cell_one (blk_on H1.out bw), n0, n1, n2⟩, al_cells (own_on H2.out bw) HY.out⟩))
      clear hy
      have TS := aside (takeA_snoc HY.out)
      by_cases hne : ((yo, yl, yk) : Nam) = (o, l, k9)
      · have WS := aside (show wo (o, l, k9) (L.take (k + 1)) = wo (o, l, k9) (L.take k) from by rw [TS.out, wo_snoc, if_pos hne])
        injection hne with e1 e2
        injection e2 with e2 e3
        subst e1 e2 e3
        have EQ : ∀ W, (binOp .neq 29 (.agg #[.int .i64 yo, .int .i64 yl, .int .i64 yk]) (.agg #[.int .i64 yo, .int .i64 yl, .int .i64 yk])).run Try.prog W = .ok (.bool false) W := fun W => name_binN_same yo yl yk W
        go_wp2_with fail
        refine wp_region_held_drew (S := fun W => ((W.cell? ⟨p, 0, none⟩ = some (.slice (some ⟨g, 0, none⟩) L.length c) ∧ W.cell? ⟨q, 0, none⟩ = some (.int .i64 yo) ∧ W.cell? ⟨q, 1, none⟩ = some (.int .i64 yl) ∧ W.cell? ⟨q, 2, none⟩ = some (.int .i64 yk)) ∧ (W.cell? ⟨g, k * 4, none⟩ = some (.int .i64 yo) ∧ W.cell? ⟨g, k * 4 + 1, none⟩ = some (.int .i64 yl) ∧ W.cell? ⟨g, k * 4 + 2, none⟩ = some (.int .i64 yk) ∧ W.cell? ⟨g, k * 4 + 3, none⟩ = some (.int .i64 yt))) ∧ Below wr.heap.size wr W) (by kernel_rfl) ⟨SX.out _ (Below.refl _ wr).drew, (Below.refl _ wr).drew⟩ (fun hHeld => ?_)
        refine wpAnyH_take (i := 0) (v := ?_) rfl (by kernel_rfl) (by kernel_rfl) (by kernel_rfl) (fun _ _ _ h => h) (Or.inl ⟨by rfl, ?_⟩) (by assumption) ?_
        rotate_left
        · intro w hSw
          go_simp
          try with_reducible rfl
        simp only [Act.put, List.getElem_toArray, List.getElem_cons_zero, List.setIfInBounds_toArray, List.set_cons_zero, List.set_cons_succ]
        refine wpAnyH_take (i := 1) (v := ?_) rfl (by kernel_rfl) (by kernel_rfl) (by kernel_rfl) (fun _ _ _ h => h) (Or.inl ⟨by rfl, ?_⟩) (by assumption) ?_
        rotate_left
        · intro w hSw
          go_simp
          try with_reducible rfl
        simp only [Act.put, List.getElem_toArray, List.getElem_cons_zero, List.getElem_cons_succ, List.setIfInBounds_toArray, List.set_cons_zero, List.set_cons_succ]
        refine wpAnyH_take (i := 2) (v := ?_) rfl (by kernel_rfl) (by kernel_rfl) (by kernel_rfl) (fun _ _ _ h => h) (Or.inl ⟨by rfl, ?_⟩) (by assumption) ?_
        rotate_left
        · intro w hSw
          go_simp
          try with_reducible rfl
        simp only [Act.put, List.getElem_toArray, List.getElem_cons_zero, List.getElem_cons_succ, List.setIfInBounds_toArray, List.set_cons_zero, List.set_cons_succ]
        refine wpAnyH_take (i := 3) (v := ?_) rfl (by kernel_rfl) (by kernel_rfl) (by kernel_rfl) (fun _ _ _ h => h) (Or.inl ⟨by rfl, ?_⟩) (by assumption) ?_
        rotate_left
        · intro w hSw
          go_simp
          try with_reducible rfl
        simp only [Act.put, List.getElem_toArray, List.getElem_cons_zero, List.getElem_cons_succ, List.setIfInBounds_toArray, List.set_cons_zero, List.set_cons_succ]
        refine wpAnyH_take (i := 4) (v := ?_) rfl (by kernel_rfl) (by kernel_rfl) (by kernel_rfl) (fun _ _ _ h => h) (Or.inl ⟨by rfl, ?_⟩) (by assumption) ?_
        rotate_left
        · intro w hSw
          go_simp
          try with_reducible rfl
        simp only [Act.put, List.getElem_toArray, List.getElem_cons_zero, List.getElem_cons_succ, List.setIfInBounds_toArray, List.set_cons_zero, List.set_cons_succ]
        refine wpAnyH_take (i := 5) (v := ?_) rfl (by kernel_rfl) (by kernel_rfl) (by kernel_rfl) (fun _ _ _ h => h) (Or.inl ⟨by rfl, ?_⟩) (by assumption) ?_
        rotate_left
        · intro w hSw
          go_simp
          try with_reducible rfl
        simp only [Act.put, List.getElem_toArray, List.getElem_cons_zero, List.getElem_cons_succ, List.setIfInBounds_toArray, List.set_cons_zero, List.set_cons_succ]
        refine wpAnyH_take (i := 6) (v := ?_) rfl (by kernel_rfl) (by kernel_rfl) (by kernel_rfl) (fun _ _ _ h => h) (Or.inl ⟨by rfl, ?_⟩) (by assumption) ?_
        rotate_left
        · intro w hSw
          go_simp
          try with_reducible rfl
        simp only [Act.put, List.getElem_toArray, List.getElem_cons_zero, List.getElem_cons_succ, List.setIfInBounds_toArray, List.set_cons_zero, List.set_cons_succ]
        refine wpAnyH_take (i := 7) (v := ?_) rfl (by kernel_rfl) (by kernel_rfl) (by kernel_rfl) (fun _ _ _ h => h) (Or.inl ⟨by rfl, ?_⟩) (by assumption) ?_
        rotate_left
        · intro w hSw
          go_simp
          try with_reducible rfl
        simp only [Act.put, List.getElem_toArray, List.getElem_cons_zero, List.getElem_cons_succ, List.setIfInBounds_toArray, List.set_cons_zero, List.set_cons_succ]
        refine wpAnyH_take (i := 8) (v := ?_) rfl (by kernel_rfl) (by kernel_rfl) (by kernel_rfl) (fun _ _ _ h => h) (Or.inl ⟨by rfl, ?_⟩) (by assumption) ?_
        rotate_left
        · intro w hSw
          go_simp
          try with_reducible rfl
        simp only [Act.put, List.getElem_toArray, List.getElem_cons_zero, List.getElem_cons_succ, List.setIfInBounds_toArray, List.set_cons_zero, List.set_cons_succ]
        refine wpAnyH_take (i := 9) (v := .bool false) rfl (by kernel_rfl) (by kernel_rfl) (by kernel_rfl) (fun _ _ _ h => h) (Or.inl ⟨by rfl, ?_⟩) (by assumption) ?_
        · intro w hSw
          go_simp
          try exact EQ _
        simp only [Act.put, List.getElem_toArray, List.getElem_cons_zero, List.getElem_cons_succ, List.setIfInBounds_toArray, List.set_cons_zero, List.set_cons_succ]
        refine wpAnyH_done (by kernel_rfl) ?_ _
        have B9 := aside (bthen HB.out hHeld.2)
        have SY := aside (SX.out _ (Below.refl _ wr).drew)
        clear hHeld SX
        have O9 := aside (own_on HO.out (Below.refl _ wr).drew)
        go_wp2
        go_roundw
        case rel => exact ⟨k + 1, by go_num, by omega, by rw [WS.out]; exact O9.out, by rw [WS.out]; exact HX.out, B9.out⟩
        case measure => simp [intOf] <;> omega
      · have WS := aside (show wo (o, l, k9) (L.take (k + 1)) = wo (o, l, k9) (L.take k) ++ [((yo, yl, yk), yt)] from by rw [TS.out, wo_snoc, if_neg hne])
        have EQ : ∀ W, (binOp .neq 29 (.agg #[.int .i64 yo, .int .i64 yl, .int .i64 yk]) (.agg #[.int .i64 o, .int .i64 l, .int .i64 k9])).run Try.prog W = .ok (.bool true) W := fun W => name_binN_not hne W
        go_wp2_with fail
        refine wp_region_held_drew (S := fun W => ((W.cell? ⟨p, 0, none⟩ = some (.slice (some ⟨g, 0, none⟩) L.length c) ∧ W.cell? ⟨q, 0, none⟩ = some (.int .i64 o) ∧ W.cell? ⟨q, 1, none⟩ = some (.int .i64 l) ∧ W.cell? ⟨q, 2, none⟩ = some (.int .i64 k9)) ∧ (W.cell? ⟨g, k * 4, none⟩ = some (.int .i64 yo) ∧ W.cell? ⟨g, k * 4 + 1, none⟩ = some (.int .i64 yl) ∧ W.cell? ⟨g, k * 4 + 2, none⟩ = some (.int .i64 yk) ∧ W.cell? ⟨g, k * 4 + 3, none⟩ = some (.int .i64 yt))) ∧ Below wr.heap.size wr W) (by kernel_rfl) ⟨SX.out _ (Below.refl _ wr).drew, (Below.refl _ wr).drew⟩ (fun hHeld => ?_)
        refine wpAnyH_take (i := 0) (v := ?_) rfl (by kernel_rfl) (by kernel_rfl) (by kernel_rfl) (fun _ _ _ h => h) (Or.inl ⟨by rfl, ?_⟩) (by assumption) ?_
        rotate_left
        · intro w hSw
          go_simp
          try with_reducible rfl
        simp only [Act.put, List.getElem_toArray, List.getElem_cons_zero, List.setIfInBounds_toArray, List.set_cons_zero, List.set_cons_succ]
        refine wpAnyH_take (i := 1) (v := ?_) rfl (by kernel_rfl) (by kernel_rfl) (by kernel_rfl) (fun _ _ _ h => h) (Or.inl ⟨by rfl, ?_⟩) (by assumption) ?_
        rotate_left
        · intro w hSw
          go_simp
          try with_reducible rfl
        simp only [Act.put, List.getElem_toArray, List.getElem_cons_zero, List.getElem_cons_succ, List.setIfInBounds_toArray, List.set_cons_zero, List.set_cons_succ]
        refine wpAnyH_take (i := 2) (v := ?_) rfl (by kernel_rfl) (by kernel_rfl) (by kernel_rfl) (fun _ _ _ h => h) (Or.inl ⟨by rfl, ?_⟩) (by assumption) ?_
        rotate_left
        · intro w hSw
          go_simp
          try with_reducible rfl
        simp only [Act.put, List.getElem_toArray, List.getElem_cons_zero, List.getElem_cons_succ, List.setIfInBounds_toArray, List.set_cons_zero, List.set_cons_succ]
        refine wpAnyH_take (i := 3) (v := ?_) rfl (by kernel_rfl) (by kernel_rfl) (by kernel_rfl) (fun _ _ _ h => h) (Or.inl ⟨by rfl, ?_⟩) (by assumption) ?_
        rotate_left
        · intro w hSw
          go_simp
          try with_reducible rfl
        simp only [Act.put, List.getElem_toArray, List.getElem_cons_zero, List.getElem_cons_succ, List.setIfInBounds_toArray, List.set_cons_zero, List.set_cons_succ]
        refine wpAnyH_take (i := 4) (v := ?_) rfl (by kernel_rfl) (by kernel_rfl) (by kernel_rfl) (fun _ _ _ h => h) (Or.inl ⟨by rfl, ?_⟩) (by assumption) ?_
        rotate_left
        · intro w hSw
          go_simp
          try with_reducible rfl
        simp only [Act.put, List.getElem_toArray, List.getElem_cons_zero, List.getElem_cons_succ, List.setIfInBounds_toArray, List.set_cons_zero, List.set_cons_succ]
        refine wpAnyH_take (i := 5) (v := ?_) rfl (by kernel_rfl) (by kernel_rfl) (by kernel_rfl) (fun _ _ _ h => h) (Or.inl ⟨by rfl, ?_⟩) (by assumption) ?_
        rotate_left
        · intro w hSw
          go_simp
          try with_reducible rfl
        simp only [Act.put, List.getElem_toArray, List.getElem_cons_zero, List.getElem_cons_succ, List.setIfInBounds_toArray, List.set_cons_zero, List.set_cons_succ]
        refine wpAnyH_take (i := 6) (v := ?_) rfl (by kernel_rfl) (by kernel_rfl) (by kernel_rfl) (fun _ _ _ h => h) (Or.inl ⟨by rfl, ?_⟩) (by assumption) ?_
        rotate_left
        · intro w hSw
          go_simp
          try with_reducible rfl
        simp only [Act.put, List.getElem_toArray, List.getElem_cons_zero, List.getElem_cons_succ, List.setIfInBounds_toArray, List.set_cons_zero, List.set_cons_succ]
        refine wpAnyH_take (i := 7) (v := ?_) rfl (by kernel_rfl) (by kernel_rfl) (by kernel_rfl) (fun _ _ _ h => h) (Or.inl ⟨by rfl, ?_⟩) (by assumption) ?_
        rotate_left
        · intro w hSw
          go_simp
          try with_reducible rfl
        simp only [Act.put, List.getElem_toArray, List.getElem_cons_zero, List.getElem_cons_succ, List.setIfInBounds_toArray, List.set_cons_zero, List.set_cons_succ]
        refine wpAnyH_take (i := 8) (v := ?_) rfl (by kernel_rfl) (by kernel_rfl) (by kernel_rfl) (fun _ _ _ h => h) (Or.inl ⟨by rfl, ?_⟩) (by assumption) ?_
        rotate_left
        · intro w hSw
          go_simp
          try with_reducible rfl
        simp only [Act.put, List.getElem_toArray, List.getElem_cons_zero, List.getElem_cons_succ, List.setIfInBounds_toArray, List.set_cons_zero, List.set_cons_succ]
        refine wpAnyH_take (i := 9) (v := .bool true) rfl (by kernel_rfl) (by kernel_rfl) (by kernel_rfl) (fun _ _ _ h => h) (Or.inl ⟨by rfl, ?_⟩) (by assumption) ?_
        · intro w hSw
          go_simp
          try exact EQ _
        simp only [Act.put, List.getElem_toArray, List.getElem_cons_zero, List.getElem_cons_succ, List.setIfInBounds_toArray, List.set_cons_zero, List.set_cons_succ]
        refine wpAnyH_done (by kernel_rfl) ?_ _
        have B9 := aside (bthen HB.out hHeld.2)
        have SY := aside (SX.out _ (Below.refl _ wr).drew)
        clear hHeld SX
        obtain ⟨⟨s0, s1, s2, s3⟩, s4, s5, s6, s7⟩ := SY.out
        have O9 := aside (own_on HO.out (Below.refl _ wr).drew)
        have KN := aside (heap_alloc_new wr.drew (.cells #[.int .i64 yo, .int .i64 yl, .int .i64 yk, .int .i64 yt] 57))
        have B10 := aside (bthen B9.out (bnew wr.drew (.cells #[.int .i64 yo, .int .i64 yl, .int .i64 yk, .int .i64 yt] 57)))
        have O10 := aside (own_on O9.out (bnew wr.drew (.cells #[.int .i64 yo, .int .i64 yl, .int .i64 yk, .int .i64 yt] 57)))
        have LE := aside (show (wo (o, l, k9) (L.take k)).length ≤ 1000000 from by have h1 := wo_le (o, l, k9) (L.take k); have h2 := List.length_take_le' k L; have := HL.out; omega)
        go_wp2_with (at_builtin; go_loud (refine wpList_plain rfl fun K hK => op_append_al Try.underlying50 infoR _ _ rfl V.heap.size (wo (o, l, k9) (L.take k)).length 1 u5 (wo (o, l, k9) (L.take k)) [((yo, yl, yk), yt)] (by rfl) O10.out ⟨wr.heap.size, 0, none⟩ 1 (by rfl) rfl (al_news KN.out) (by have := LE.out; omega) (B10.out.size) ?_); intro v4 w4 own4 gr4; refine hK _ _ ?_; refine Hid.out ?_)
        refine aside ?_
        have O4 := aside own4
        have B4 := aside (B10.out.grown gr4 B10.out.size (fun j e => (O10.out.lt j e).1))
        have X4 := aside (show ∃ x c, v4 = .slice (some x) ((wo (o, l, k9) (L.take k)).length + 1) c from by
          obtain ⟨a, c, e, -, -, ⟨-, h0, -⟩ | ⟨g, e2, -, -⟩⟩ := own_slice own4
          · omega
          · exact ⟨_, c, by rw [e, e2]⟩)
        clear own4 gr4 s0 s1 s2 s3 s4 s5 s6 s7
        go_wp2
        go_roundw
        case rel => exact ⟨k + 1, by go_num, by omega, by rw [WS.out, List.length_append]; exact O4.out, by rw [WS.out, List.length_append]; exact X4.out, B4.out⟩
        case measure => simp [intOf] <;> omega
    · have WS := aside (show wo (o, l, k9) (L.take k) = wo (o, l, k9) L from by rw [List.take_of_length_le (by omega)])
      go_wp2
      go_ret
      exact ⟨_, rfl, by rw [← WS.out]; exact own_low HO.out (by have := BV.out.size; have := HQ.out; omega), by rw [← WS.out]; exact HX.out, by first | exact bthen BV.out HB.out | (rw [← HQ.out]; exact bthen BV.out HB.out)⟩

end Go.Proofs.Ytoajgacofmodoaa

/-
  The document's tree: rows appended, At and Clone walked.
-/
import Derived.Test.YtnlmlhoddchgbaaTrRefA
namespace Go.Proofs.Ytnlmlhoddchgbaa
open Go.RowKit
set_option linter.unusedVariables false

/-- The cells of rows that are read. -/
theorem rows_cells {w : World} {y : Addr} {len cap : Nat} {T : Nat → RowR} (h : RowsIn6 w (some y) len cap T) : ∀ j u, (rowCells ((List.range len).map T))[j]? = some u → w.cell? (y.add j) = some u := by
  intro j u hj
  have hjl : j < len * 4 := by
    have := (List.getElem?_eq_some_iff.1 hj).1
    rw [rowCells_length] at this
    simpa using this
  rcases h.2.2.2 with h0 | ⟨b, off, hy, hb, hc⟩
  · omega
  · injection hy with hy
    subst hy
    obtain ⟨⟨c0, c1, c2, c3⟩, -⟩ := hc (j / 4) (by omega)
    have hat := rowCells_at ((List.range len).map T) (j / 4) (j % 4) (T (j / 4)) (by rw [List.getElem?_map, List.getElem?_range (by omega)]; rfl) (by omega)
    rw [show j / 4 * 4 + j % 4 = j from by omega] at hat
    rw [hat] at hj
    rw [Addr.add_lit, show off + j = off + j / 4 * 4 + j % 4 from by omega]
    have hr : j % 4 < 4 := by omega
    generalize j % 4 = r at *
    match r, hr with
    | 0, _ => simp [rowVals] at hj; subst hj; exact c0
    | 1, _ => simp [rowVals] at hj; subst hj; exact c1
    | 2, _ => simp [rowVals] at hj; subst hj; exact c2
    | 3, _ => simp [rowVals] at hj; subst hj; exact c3

/-- Rows that are read appended to an owned row, as one operation. -/
theorem op_append_src {w : World} {o : Oper} {act : Act} {K : Act → World → Prop} {Q : Exit → Act → World → Prop} (s x : Operand)
    (ho : o.op = .call { callee := .builtin .append, args := #[s, x], argTypes := #[58, 58] })
    (B n : Nat) (v : Value) (l : List RowR) (hs : act.eval s = v) (hown : w.ownsRow B 64 4 v n (rowCells l)) (a : Option Addr) (len cap : Nat) (T : Nat → RowR) (hx : act.eval x = .slice a len cap) (hL : RowsIn6 w a len cap T)
    (hform : (a = none ∧ len = 0 ∧ cap = 0) ∨ ∃ y, a = some y) (hlen : (n + len) * 40 ≤ 140737488351232) (hB : B ≤ w.heap.size)
    (h : ∀ v' w', w'.ownsRow B 64 4 v' (n + len) (rowCells (l ++ (List.range len).map T)) → w.grownBy w' v.ownBlock → K (act.put o.dst v') w') : o.wp Try.prog act w K Q := by
  obtain ⟨i0, hi, hz0, hz1, hz2⟩ := info_parts infoRow
  rcases hform with ⟨rfl, rfl, rfl⟩ | ⟨y, rfl⟩
  · have hrun := run_append_owned_none (P := Try.prog) (w := w) B 58 o.type 64 i0 4 Try.underlying58 hi _ _ _ hown
    unfold Oper.wp
    simp [execOp, ho, resolve, invoke, builtin, hs, hx, hrun, Result.andThen]
    have hA : w.ownsRow B 64 4 v (n + 0) (rowCells (l ++ (List.range 0).map T)) := by simpa using hown
    exact h v w hA (World.grownBy.refl _ _)
  · refine wp_append_own w s x _ ho B 64 i0 _ 4 40 Try.underlying58 hi hz0 hz1 hz2 rfl (by decide) _ _ _ hs hown y len cap (rowCells ((List.range len).map T)) hx (by rw [rowCells_length]; simp) (rows_cells hL) (rowCells_one _) (by unfold maxLen; omega) (by omega) hB ?_
    intro v' w' ho' hg _
    rw [← rowCells_append] at ho'
    exact h v' w' ho' hg

theorem range_nthR (l : List RowR) : (List.range l.length).map (nthR l) = l := by
  apply List.ext_getElem?
  intro i
  by_cases hi : i < l.length
  · rw [List.getElem?_map, List.getElem?_range hi, nthR_get hi]; rfl
  · rw [List.getElem?_eq_none (by simp; omega), List.getElem?_eq_none (by omega)]

theorem RT.form {W : World} {rb : Nat} {l : List RowR} (h : RT W rb l) : ∃ a cap, W.cell? ⟨rb, 0, none⟩ = some (.slice a l.length cap) ∧ RowsIn6 W a l.length cap (nthR l) ∧ ((a = none ∧ l.length = 0 ∧ cap = 0) ∨ ∃ y, a = some y) := by
  obtain ⟨v, h1, h2, h3, h4⟩ := h
  obtain ⟨a, cap, rfl, h5, h6, h7⟩ := own_slice h2
  refine ⟨a, cap, by simp [World.cell?, h1], rows_of_row h2 h3 h4, ?_⟩
  rcases h7 with h7 | ⟨g, h7, -⟩
  · exact .inl h7
  · exact .inr ⟨_, h7⟩

theorem own_low {w : World} {base base' : Nat} {e : TypeId} {size : Nat} {v : Value} {n : Nat} {xs : List Value} (h : w.ownsRow base e size v n xs) (hb : base' ≤ base) : w.ownsRow base' e size v n xs := by
  refine ⟨h.1, ?_⟩
  rcases h.2 with h0 | ⟨g, cap, cur, h1, h2, h3⟩
  · exact .inl h0
  · exact .inr ⟨g, cap, cur, h1, Nat.le_trans hb h2, h3⟩

set_option maxHeartbeats 3200000 in
set_option maxRecDepth 100000 in
theorem rat_in {W : World} {rb : Nat} {l : List RowR} (h : RT W rb l) (q : Nat) (hq : q < l.length) :
    Calls Try.prog 46 #[.pointer (some ⟨rb, 0, none⟩), .int .i64 (q : Int)] W fun e w' => e = .returned (.tuple #[.string (nthR l q).key, .int .i64 (nthR l q).v, .bool true]) ∧ Below W.heap.size W w' := by
  obtain ⟨a, cap, hc, hr⟩ := h.open
  obtain ⟨n, hn⟩ : ∃ n, l.length = n := ⟨_, rfl⟩
  rw [hn] at hc hr hq
  rcases hr.2.2.2 with h0 | ⟨b, off, rfl, hbl, hcc⟩
  · omega
  · obtain ⟨⟨c0, c1, -, -⟩, -⟩ := hcc q hq
    generalize nthR l q = x at *
    have hq0 : (0 : Int) ≤ (q : Int) := by omega
    have hq1 : (q : Int) < (n : Int) := by omega
    have hq2 : ¬ (n : Int) ≤ (q : Int) := by omega
    clear hcc hr hbl h hn hq
    go_enter Try.func46, Try.ntmps46
    go_wp2_with fail
    refine wp_region_held_drew (S := fun X => Below W.heap.size W X ∧ X.cell? ⟨rb, 0, none⟩ = some (.slice (some ⟨b, off, none⟩) n cap) ∧ X.cell? ⟨b, off + q * 4, none⟩ = some (.string x.key) ∧ X.cell? ⟨b, off + q * 4 + 1, none⟩ = some (.int .i64 x.v)) (by kernel_rfl) ⟨(Below.refl _ W).drew, hc, c0, c1⟩ (fun hHeld => ?_)
    refine wpAnyH_take (i := 0) (v := ?_) rfl (by kernel_rfl) (by kernel_rfl) (by kernel_rfl) (fun _ _ _ h => h) (Or.inl ⟨by rfl, ?_⟩) (by assumption) ?_
    rotate_left
    · intro w hSw
      go_simp
      try with_reducible rfl
    simp only [Act.put, List.getElem_toArray, List.getElem_cons_zero, List.setIfInBounds_toArray, List.set_cons_zero, List.set_cons_succ]
    refine wpAnyH_take (i := 1) (v := ?_) rfl (by kernel_rfl) (by kernel_rfl) (by kernel_rfl) (fun _ _ _ h => h) (Or.inl ⟨by rfl, ?_⟩) (by assumption) ?_
    rotate_left
    · intro w hSw
      go_simp
      try with_reducible rfl
    simp only [Act.put, List.getElem_toArray, List.getElem_cons_zero, List.getElem_cons_succ, List.setIfInBounds_toArray, List.set_cons_zero, List.set_cons_succ]
    refine wpAnyH_take (i := 2) (v := ?_) rfl (by kernel_rfl) (by kernel_rfl) (by kernel_rfl) (fun _ _ _ h => h) (Or.inl ⟨by rfl, ?_⟩) (by assumption) ?_
    rotate_left
    · intro w hSw
      go_simp
      try with_reducible rfl
    simp only [Act.put, List.getElem_toArray, List.getElem_cons_zero, List.getElem_cons_succ, List.setIfInBounds_toArray, List.set_cons_zero, List.set_cons_succ]
    refine wpAnyH_take (i := 3) (v := ?_) rfl (by kernel_rfl) (by kernel_rfl) (by kernel_rfl) (fun _ _ _ h => h) (Or.inl ⟨by rfl, ?_⟩) (by assumption) ?_
    rotate_left
    · intro w hSw
      go_simp
      try with_reducible rfl
    simp only [Act.put, List.getElem_toArray, List.getElem_cons_zero, List.getElem_cons_succ, List.setIfInBounds_toArray, List.set_cons_zero, List.set_cons_succ]
    refine wpAnyH_take (i := 4) (v := ?_) rfl (by kernel_rfl) (by kernel_rfl) (by kernel_rfl) (fun _ _ _ h => h) (Or.inl ⟨by rfl, ?_⟩) (by assumption) ?_
    rotate_left
    · intro w hSw
      go_simp
      try with_reducible rfl
    simp only [Act.put, List.getElem_toArray, List.getElem_cons_zero, List.getElem_cons_succ, List.setIfInBounds_toArray, List.set_cons_zero, List.set_cons_succ]
    refine wpAnyH_take (i := 5) (v := ?_) rfl (by kernel_rfl) (by kernel_rfl) (by kernel_rfl) (fun _ _ _ h => h) (Or.inl ⟨by rfl, ?_⟩) (by assumption) ?_
    rotate_left
    · intro w hSw
      go_simp
      try with_reducible rfl
    simp only [Act.put, List.getElem_toArray, List.getElem_cons_zero, List.getElem_cons_succ, List.setIfInBounds_toArray, List.set_cons_zero, List.set_cons_succ]
    refine wpAnyH_take (i := 6) (v := ?_) rfl (by kernel_rfl) (by kernel_rfl) (by kernel_rfl) (fun _ _ _ h => h) (Or.inl ⟨by rfl, ?_⟩) (by assumption) ?_
    rotate_left
    · intro w hSw
      go_simp
      try with_reducible rfl
    simp only [Act.put, List.getElem_toArray, List.getElem_cons_zero, List.getElem_cons_succ, List.setIfInBounds_toArray, List.set_cons_zero, List.set_cons_succ]
    refine wpAnyH_take (i := 7) (v := ?_) rfl (by kernel_rfl) (by kernel_rfl) (by kernel_rfl) (fun _ _ _ h => h) (Or.inl ⟨by rfl, ?_⟩) (by assumption) ?_
    rotate_left
    · intro w hSw
      go_simp
      try with_reducible rfl
    simp only [Act.put, List.getElem_toArray, List.getElem_cons_zero, List.getElem_cons_succ, List.setIfInBounds_toArray, List.set_cons_zero, List.set_cons_succ]
    refine wpAnyH_take (i := 8) (v := ?_) rfl (by kernel_rfl) (by kernel_rfl) (by kernel_rfl) (fun _ _ _ h => h) (Or.inl ⟨by rfl, ?_⟩) (by assumption) ?_
    rotate_left
    · intro w hSw
      go_simp
      try with_reducible rfl
    simp only [Act.put, List.getElem_toArray, List.getElem_cons_zero, List.getElem_cons_succ, List.setIfInBounds_toArray, List.set_cons_zero, List.set_cons_succ]
    refine wpAnyH_take (i := 9) (v := ?_) rfl (by kernel_rfl) (by kernel_rfl) (by kernel_rfl) (fun _ _ _ h => h) (Or.inl ⟨by rfl, ?_⟩) (by assumption) ?_
    rotate_left
    · intro w hSw
      go_simp
      try with_reducible rfl
    simp only [Act.put, List.getElem_toArray, List.getElem_cons_zero, List.getElem_cons_succ, List.setIfInBounds_toArray, List.set_cons_zero, List.set_cons_succ]
    refine wpAnyH_take (i := 10) (v := ?_) rfl (by kernel_rfl) (by kernel_rfl) (by kernel_rfl) (fun _ _ _ h => h) (Or.inl ⟨by rfl, ?_⟩) (by assumption) ?_
    rotate_left
    · intro w hSw
      go_simp
      try with_reducible rfl
    simp only [Act.put, List.getElem_toArray, List.getElem_cons_zero, List.getElem_cons_succ, List.setIfInBounds_toArray, List.set_cons_zero, List.set_cons_succ]
    refine wpAnyH_take (i := 11) (v := ?_) rfl (by kernel_rfl) (by kernel_rfl) (by kernel_rfl) (fun _ _ _ h => h) (Or.inl ⟨by rfl, ?_⟩) (by assumption) ?_
    rotate_left
    · intro w hSw
      go_simp
      try with_reducible rfl
    simp only [Act.put, List.getElem_toArray, List.getElem_cons_zero, List.getElem_cons_succ, List.setIfInBounds_toArray, List.set_cons_zero, List.set_cons_succ]
    refine wpAnyH_take (i := 12) (v := ?_) rfl (by kernel_rfl) (by kernel_rfl) (by kernel_rfl) (fun _ _ _ h => h) (Or.inl ⟨by rfl, ?_⟩) (by assumption) ?_
    rotate_left
    · intro w hSw
      go_simp
      try with_reducible rfl
    simp only [Act.put, List.getElem_toArray, List.getElem_cons_zero, List.getElem_cons_succ, List.setIfInBounds_toArray, List.set_cons_zero, List.set_cons_succ]
    refine wpAnyH_take (i := 13) (v := ?_) rfl (by kernel_rfl) (by kernel_rfl) (by kernel_rfl) (fun _ _ _ h => h) (Or.inl ⟨by rfl, ?_⟩) (by assumption) ?_
    rotate_left
    · intro w hSw
      go_simp
      try with_reducible rfl
    simp only [Act.put, List.getElem_toArray, List.getElem_cons_zero, List.getElem_cons_succ, List.setIfInBounds_toArray, List.set_cons_zero, List.set_cons_succ]
    refine wpAnyH_take (i := 14) (v := ?_) rfl (by kernel_rfl) (by kernel_rfl) (by kernel_rfl) (fun _ _ _ h => h) (Or.inl ⟨by rfl, ?_⟩) (by assumption) ?_
    rotate_left
    · intro w hSw
      go_simp
      try with_reducible rfl
    simp only [Act.put, List.getElem_toArray, List.getElem_cons_zero, List.getElem_cons_succ, List.setIfInBounds_toArray, List.set_cons_zero, List.set_cons_succ]
    refine wpAnyH_take (i := 15) (v := ?_) rfl (by kernel_rfl) (by kernel_rfl) (by kernel_rfl) (fun _ _ _ h => h) (Or.inl ⟨by rfl, ?_⟩) (by assumption) ?_
    rotate_left
    · intro w hSw
      go_simp
      try with_reducible rfl
    simp only [Act.put, List.getElem_toArray, List.getElem_cons_zero, List.getElem_cons_succ, List.setIfInBounds_toArray, List.set_cons_zero, List.set_cons_succ]
    refine wpAnyH_take (i := 16) (v := ?_) rfl (by kernel_rfl) (by kernel_rfl) (by kernel_rfl) (fun _ _ _ h => h) (Or.inl ⟨by rfl, ?_⟩) (by assumption) ?_
    rotate_left
    · intro w hSw
      go_simp
      try with_reducible rfl
    simp only [Act.put, List.getElem_toArray, List.getElem_cons_zero, List.getElem_cons_succ, List.setIfInBounds_toArray, List.set_cons_zero, List.set_cons_succ]
    refine wpAnyH_take (i := 17) (v := ?_) rfl (by kernel_rfl) (by kernel_rfl) (by kernel_rfl) (fun _ _ _ h => h) (Or.inl ⟨by rfl, ?_⟩) (by assumption) ?_
    rotate_left
    · intro w hSw
      go_simp
      try with_reducible rfl
    simp only [Act.put, List.getElem_toArray, List.getElem_cons_zero, List.getElem_cons_succ, List.setIfInBounds_toArray, List.set_cons_zero, List.set_cons_succ]
    refine wpAnyH_take (i := 18) (v := ?_) rfl (by kernel_rfl) (by kernel_rfl) (by kernel_rfl) (fun _ _ _ h => h) (Or.inl ⟨by rfl, ?_⟩) (by assumption) ?_
    rotate_left
    · intro w hSw
      go_simp
      try with_reducible rfl
    simp only [Act.put, List.getElem_toArray, List.getElem_cons_zero, List.getElem_cons_succ, List.setIfInBounds_toArray, List.set_cons_zero, List.set_cons_succ]
    refine wpAnyH_done (by kernel_rfl) ?_ _
    go_wp2
    exact bodyPost_ret (v := .tuple #[.string x.key, .int .i64 x.v, .bool true]) (by simp [results, Try.results46, go_sem]) rfl ⟨rfl, hHeld.1⟩

set_option maxHeartbeats 3200000 in
set_option maxRecDepth 100000 in
theorem rat_out {W : World} {rb : Nat} {l : List RowR} (h : RT W rb l) (i : Int) (hi : i < 0 ∨ (l.length : Int) ≤ i) :
    Calls Try.prog 46 #[.pointer (some ⟨rb, 0, none⟩), .int .i64 i] W fun e w' => e = .returned (.tuple #[.string ⟨#[]⟩, .int .i64 0, .bool false]) ∧ Below W.heap.size W w' := by
  obtain ⟨a, cap, hc, hr⟩ := h.open
  clear hr h
  generalize l.length = n at *
  by_cases h1 : i < 0
  · clear hi
    go_enter Try.func46, Try.ntmps46
    go_wp2
    exact bodyPost_ret (v := .tuple #[.string ⟨#[]⟩, .int .i64 0, .bool false]) (by simp [results, Try.results46, go_sem]) rfl ⟨rfl, Below.refl _ _⟩
  · have h2 : (n : Int) ≤ i := by omega
    clear hi
    go_enter Try.func46, Try.ntmps46
    go_wp2
    exact bodyPost_ret (v := .tuple #[.string ⟨#[]⟩, .int .i64 0, .bool false]) (by simp [results, Try.results46, go_sem]) rfl ⟨rfl, Below.refl _ _⟩

set_option maxHeartbeats 3200000 in
set_option maxRecDepth 100000 in
theorem rclone_any {W : World} {rb : Nat} {l : List RowR} (h : RT W rb l) :
    Calls Try.prog 48 #[.pointer (some ⟨rb, 0, none⟩)] W fun e w' => ∃ rc, e = .returned (.pointer (some ⟨rc, 0, none⟩)) ∧ W.heap.size ≤ rc ∧ RT w' rc l ∧ Below W.heap.size W w' := by
  obtain ⟨a, cap, hc, hr, hf⟩ := h.form
  obtain ⟨-, -, -, hv, hz⟩ := h
  have HR := aside hr
  have HF := aside hf
  have HV := aside hv
  have HZ := aside hz
  have HN := aside (range_nthR l)
  have HW := aside (show W.ownsRow W.heap.size 64 4 (.slice none 0 0) 0 (rowCells []) from World.ownsRow_nil _ _ _ _)
  clear hr hf hv hz
  obtain ⟨n, hn⟩ : ∃ n, l.length = n := ⟨_, rfl⟩
  have HL := aside hn
  rw [hn] at hc HR HF HN HZ
  clear hn
  go_enter Try.func48, Try.ntmps48
  go_wp2_with (at_builtin; refine wpList_plain rfl fun K hK => op_append_src _ _ rfl W.heap.size 0 (.slice none 0 0) [] (by rfl) HW.out a n cap (nthR l) (by rfl) HR.out HF.out (by have := HZ.out; omega) (Nat.le_refl _) ?_; intro v1 w1 own1 gr1; refine hK _ _ ?_; refine Hid.out ?_)
  refine aside ?_
  rw [List.nil_append, HN.out, Nat.zero_add] at own1
  have B1 := aside (show Below W.heap.size W w1 from (Below.refl _ W).grown gr1 (Nat.le_refl _) (fun k e => by cases e))
  have OW := aside own1
  clear own1 gr1
  obtain ⟨a1, c1, rfl, -, -, -⟩ := own_slice OW.out
  go_wp2
  go_ret
  exact ⟨w1.heap.size, rfl, B1.out.size, ⟨_, heap_alloc_new w1 _, HL.out.symm ▸ own_low (own_on OW.out (bnew w1 _)) (Nat.zero_le _), HV.out, HL.out.symm ▸ HZ.out⟩, bthen B1.out (bnew w1 _)⟩

end Go.Proofs.Ytnlmlhoddchgbaa

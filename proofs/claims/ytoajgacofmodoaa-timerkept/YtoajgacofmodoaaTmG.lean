/-
  Set of the document's timer.
-/
import Derived.Test.YtoajgacofmodoaaTmF
namespace Go.Proofs.Ytoajgacofmodoaa
open Go.RowKit
set_option linter.unusedVariables false

theorem insA_at {a : Alm} : ∀ {M : List Alm} {k : Nat}, k ≤ M.length → (∀ j b, j < k → M[j]? = some b → alt b a) → (∀ b, M[k]? = some b → ¬ alt b a) → insA a M = M.take k ++ a :: M.drop k
  | [], k, hk, _, _ => by simp [insA]
  | b :: r, 0, hk, _, h => by
    unfold insA
    rw [if_neg (h b rfl)]
    rfl
  | b :: r, k + 1, hk, h1, h2 => by
    unfold insA
    rw [if_pos (h1 0 b (by omega) rfl), insA_at (k := k) (by simpa using hk) (fun j c hj hc => h1 (j + 1) c (by omega) (by simpa using hc)) (fun c hc => h2 c (by simpa using hc))]
    rfl
set_option maxHeartbeats 8000000 in
set_option maxRecDepth 100000 in
theorem rsetT_any {w : World} {p : Nat} {L : List Alm} (o l k9 t : Int) (h : DTm w p L) (hl : L.length ≤ 900000) : Calls Try.prog 21 #[.pointer (some ⟨p, 0, none⟩), .agg #[.int .i64 o, .int .i64 l, .int .i64 k9], .int .i64 t] w fun e w' => e = .returned (.int .i64 (setE t)) ∧ DTm w' p (setA (o, l, k9) t L) ∧ Keeps (fun x => x = p) w w' := by
  have HH := aside h
  have BV := aside (bnew w (.cells #[.int .i64 o, .int .i64 l, .int .i64 k9] 29))
  have KQ := aside (heap_alloc_new w (.cells #[.int .i64 o, .int .i64 l, .int .i64 k9] 29))
  have CW := aside (rwoT_any o l k9 (h.below BV.out) (by omega))
  have HL := aside hl
  obtain ⟨V, hV⟩ : ∃ V, w.alloc (.cells #[.int .i64 o, .int .i64 l, .int .i64 k9] 29) = V := ⟨_, rfl⟩
  obtain ⟨q, hq⟩ : ∃ q, w.heap.size = q := ⟨_, rfl⟩
  rw [hV] at BV KQ CW
  rw [hq] at KQ
  clear h hl
  by_cases h1 : t < 0
  · go_enter Try.func21, Try.ntmps21
    go_wp2
    go_ret
    try rw [hV]
    exact ⟨ret_i64 (setE_no (by unfold tOk; omega)).symm, by unfold setA; rw [if_neg (by unfold tOk; omega)]; exact HH.out.below BV.out, Keeps.of_below BV.out _⟩
  · by_cases h2 : 1099511627776 < t
    · go_enter Try.func21, Try.ntmps21
      go_wp2
      go_ret
      try rw [hV]
      exact ⟨ret_i64 (setE_no (by unfold tOk; omega)).symm, by unfold setA; rw [if_neg (by unfold tOk; omega)]; exact HH.out.below BV.out, Keeps.of_below BV.out _⟩
    · have HK := aside (show tOk t from ⟨by omega, by omega⟩)
      obtain ⟨z0, z1, z2⟩ := tri3 KQ.out
      go_enter Try.func21, Try.ntmps21
      go_wp2_with fail
      try rw [hV]
      refine CW.out.mono ?_
      rintro e w1 ⟨v, rfl, own1, ⟨x, c, rfl⟩, b1⟩
      have LM := aside (show (wo (o, l, k9) L).length ≤ 900000 from by have := wo_le (o, l, k9) L; have := HL.out; omega)
      obtain ⟨M, hM⟩ : ∃ M, wo (o, l, k9) L = M := ⟨_, rfl⟩
      have HM := aside hM
      rw [hM] at own1 LM ⊢
      obtain ⟨a9, c9, e9, hc1, hc2, h9⟩ := own_slice own1
      obtain ⟨g, rfl⟩ : ∃ g, x = ⟨g, 0, none⟩ := by
        injection e9 with e1 e2 e3
        rcases h9 with ⟨h0, -⟩ | ⟨g, hg, -⟩
        · rw [h0] at e1; cases e1
        · rw [hg] at e1; injection e1 with e1; exact ⟨g, e1⟩
      have HCM := aside (show M.length ≤ c ∧ c ≤ maxLen from row_maxT own1)
      clear e9 hc1 hc2 h9 hM
      have O1 := aside own1
      have B1 := aside (bthen BV.out b1)
      obtain ⟨z0, z1, z2⟩ := tri3 (blk_on KQ.out b1)
      obtain ⟨q8, hq8⟩ : ∃ q, w1.heap.size = q := ⟨_, rfl⟩
      obtain ⟨V1, hV1⟩ : ∃ V, w1.alloc (.cells #[.int .i64 o, .int .i64 l, .int .i64 k9, .int .i64 t] 57) = V := ⟨_, rfl⟩
      have B2 := aside (show Below w1.heap.size w1 V1 from by rw [← hV1]; exact bnew w1 _)
      have KA := aside (show V1.heap[q8]? = some (.cells #[.int .i64 o, .int .i64 l, .int .i64 k9, .int .i64 t] 57 (0, 0)) from by rw [← hV1, ← hq8]; exact heap_alloc_new w1 _)
      have hml : (M.length : Int) ≤ 900000 := by have := LM.out; omega
      clear own1 b1 CW
      go_wp2
      go_loopw [9] (fun i wr => ∃ k : Nat, i = .int .i64 (k : Int) ∧ k ≤ M.length ∧ Hid (∀ j b, j < k → M[j]? = some b → alt b ((o, l, k9), t)) ∧ Hid (Below V1.heap.size V1 wr)) (fun i _ => M.length - (intOf i).toNat)
      case atStart => exact ⟨0, rfl, Nat.zero_le _, (fun j b hj => by omega), Below.refl _ _⟩
      case round =>
        clear z0 z1 z2
        obtain ⟨k, rfl, hk, HAL, HB⟩ := hrel
        by_cases hlk : (k : Int) < (M.length : Int)
        · have hk0 : (0 : Int) ≤ (k : Int) := by omega
          obtain ⟨y, hy⟩ : ∃ y, M[k]? = some y := ⟨M[k]'(by omega), List.getElem?_eq_getElem _⟩
          obtain ⟨⟨yo, yl, yk⟩, yt⟩ := y
          have HY := aside hy
          have SX := aside (fun W (bb : Below wr.heap.size wr W) => (show (W.cell? ⟨g, k * 4, none⟩ = some (.int .i64 yo) ∧ W.cell? ⟨g, k * 4 + 1, none⟩ = some (.int .i64 yl) ∧ W.cell? ⟨g, k * 4 + 2, none⟩ = some (.int .i64 yk) ∧ W.cell? ⟨g, k * 4 + 3, none⟩ = some (.int .i64 yt)) ∧ W.cell? ⟨q8, 0, none⟩ = some (.int .i64 o) ∧ W.cell? ⟨q8, 1, none⟩ = some (.int .i64 l) ∧ W.cell? ⟨q8, 2, none⟩ = some (.int .i64 k9) ∧ W.cell? ⟨q8, 3, none⟩ = some (.int .i64 t) from by
            have bw := bthen HB.out bb
            exact ⟨al_cells (own_on O1.out (bthen B2.out bw)) HY.out, four (blk_on KA.out bw)⟩))
          have CF := fun W => rfirst_any yo yl yk yt o l k9 t W
          obtain ⟨d, hd⟩ : ∃ d, decide (alt ((yo, yl, yk), yt) ((o, l, k9), t)) = d := ⟨_, rfl⟩
          rw [hd] at CF
          replace CF := aside CF
          clear hy
          cases d with
          | true =>
            have HD := aside (show alt ((yo, yl, yk), yt) ((o, l, k9), t) from by simpa using hd)
            clear hd
            go_wp2_with fail
            refine wp_region_held_drew (S := fun W => ((W.cell? ⟨g, k * 4, none⟩ = some (.int .i64 yo) ∧ W.cell? ⟨g, k * 4 + 1, none⟩ = some (.int .i64 yl) ∧ W.cell? ⟨g, k * 4 + 2, none⟩ = some (.int .i64 yk) ∧ W.cell? ⟨g, k * 4 + 3, none⟩ = some (.int .i64 yt)) ∧ W.cell? ⟨q8, 0, none⟩ = some (.int .i64 o) ∧ W.cell? ⟨q8, 1, none⟩ = some (.int .i64 l) ∧ W.cell? ⟨q8, 2, none⟩ = some (.int .i64 k9) ∧ W.cell? ⟨q8, 3, none⟩ = some (.int .i64 t)) ∧ Hid (Below wr.heap.size wr W)) (by kernel_rfl) ⟨SX.out _ (Below.refl _ wr).drew, aside (Below.refl _ wr).drew⟩ (fun hHeld => ?_)
            refine wpAnyH_take (i := 0) (v := ?_) rfl (by kernel_rfl) (by kernel_rfl) (by kernel_rfl) (fun _ _ _ h => h) (Or.inl ⟨by rfl, ?_⟩) (by assumption) ?_
            rotate_left
            · intro w hSw
              go_simp
              try with_reducible rfl
            simp only [Act.put, List.getElem_toArray, List.getElem_cons_zero, List.setIfInBounds_toArray, List.set_cons_zero, List.set_cons_succ]
            refine wpAnyH_take (i := 1) (v := ?_) rfl (by kernel_rfl) (by kernel_rfl) (by kernel_rfl) (fun _ _ _ h => h) (Or.inl ⟨by rfl, ?_⟩) (by assumption) ?_
            rotate_left
            · intro w hSw
              go_simp
              try with_reducible rfl
            simp only [Act.put, List.getElem_toArray, List.getElem_cons_zero, List.getElem_cons_succ, List.setIfInBounds_toArray, List.set_cons_zero, List.set_cons_succ]
            refine wpAnyH_take (i := 2) (v := ?_) rfl (by kernel_rfl) (by kernel_rfl) (by kernel_rfl) (fun _ _ _ h => h) (Or.inl ⟨by rfl, ?_⟩) (by assumption) ?_
            rotate_left
            · intro w hSw
              go_simp
              try with_reducible rfl
            simp only [Act.put, List.getElem_toArray, List.getElem_cons_zero, List.getElem_cons_succ, List.setIfInBounds_toArray, List.set_cons_zero, List.set_cons_succ]
            refine wpAnyH_take (i := 3) (v := ?_) rfl (by kernel_rfl) (by kernel_rfl) (by kernel_rfl) (fun _ _ _ h => h) (Or.inl ⟨by rfl, ?_⟩) (by assumption) ?_
            rotate_left
            · intro w hSw
              go_simp
              try with_reducible rfl
            simp only [Act.put, List.getElem_toArray, List.getElem_cons_zero, List.getElem_cons_succ, List.setIfInBounds_toArray, List.set_cons_zero, List.set_cons_succ]
            refine wpAnyH_take (i := 4) (v := ?_) rfl (by kernel_rfl) (by kernel_rfl) (by kernel_rfl) (fun _ _ _ h => h) (Or.inl ⟨by rfl, ?_⟩) (by assumption) ?_
            rotate_left
            · intro w hSw
              go_simp
              try with_reducible rfl
            simp only [Act.put, List.getElem_toArray, List.getElem_cons_zero, List.getElem_cons_succ, List.setIfInBounds_toArray, List.set_cons_zero, List.set_cons_succ]
            refine wpAnyH_take (i := 5) (v := ?_) rfl (by kernel_rfl) (by kernel_rfl) (by kernel_rfl) (fun _ _ _ h => h) (Or.inl ⟨by rfl, ?_⟩) (by assumption) ?_
            rotate_left
            · intro w hSw
              go_simp
              try with_reducible rfl
            simp only [Act.put, List.getElem_toArray, List.getElem_cons_zero, List.getElem_cons_succ, List.setIfInBounds_toArray, List.set_cons_zero, List.set_cons_succ]
            refine wpAnyH_take (i := 6) (v := ?_) rfl (by kernel_rfl) (by kernel_rfl) (by kernel_rfl) (fun _ _ _ h => h) (Or.inl ⟨by rfl, ?_⟩) (by assumption) ?_
            rotate_left
            · intro w hSw
              go_simp
              try with_reducible rfl
            simp only [Act.put, List.getElem_toArray, List.getElem_cons_zero, List.getElem_cons_succ, List.setIfInBounds_toArray, List.set_cons_zero, List.set_cons_succ]
            refine wpAnyH_take (i := 7) (v := ?_) rfl (by kernel_rfl) (by kernel_rfl) (by kernel_rfl) (fun _ _ _ h => h) (Or.inl ⟨by rfl, ?_⟩) (by assumption) ?_
            rotate_left
            · intro w hSw
              go_simp
              try with_reducible rfl
            simp only [Act.put, List.getElem_toArray, List.getElem_cons_zero, List.getElem_cons_succ, List.setIfInBounds_toArray, List.set_cons_zero, List.set_cons_succ]
            refine wpAnyH_take (i := 8) (v := ?_) rfl (by kernel_rfl) (by kernel_rfl) (by kernel_rfl) (fun _ _ _ h => h) (Or.inl ⟨by rfl, ?_⟩) (by assumption) ?_
            rotate_left
            · intro w hSw
              go_simp
              try with_reducible rfl
            simp only [Act.put, List.getElem_toArray, List.getElem_cons_zero, List.getElem_cons_succ, List.setIfInBounds_toArray, List.set_cons_zero, List.set_cons_succ]
            refine wpAnyH_take (i := 9) (v := ?_) rfl (by kernel_rfl) (by kernel_rfl) (by kernel_rfl) (fun _ _ _ h => h) (Or.inl ⟨by rfl, ?_⟩) (by assumption) ?_
            rotate_left
            · intro w hSw
              go_simp
              try with_reducible rfl
            simp only [Act.put, List.getElem_toArray, List.getElem_cons_zero, List.getElem_cons_succ, List.setIfInBounds_toArray, List.set_cons_zero, List.set_cons_succ]
            refine wpAnyH_ready (rs := [10]) (by kernel_rfl) (by simp) ?_
            refine AllReadyH.cons rfl (fun K hK => ?_) AllReadyH.nil
            go_simp
            refine (CF.out _).mono ?_
            rintro e w9 ⟨rfl, bb⟩
            refine hK.out _ _ (⟨SX.out _ (bthen (Below.refl _ wr).drew bb), aside (bthen (Below.refl _ wr).drew bb)⟩) (fun hHeld => ?_)
            clear hK K 
            refine wpAnyH_take (i := 11) (v := ?_) rfl (by kernel_rfl) (by kernel_rfl) (by kernel_rfl) (fun _ _ _ h => h) (Or.inl ⟨by rfl, ?_⟩) (by assumption) ?_
            rotate_left
            · intro w hSw
              go_simp
              try with_reducible rfl
            simp only [Act.put, List.getElem_toArray, List.getElem_cons_zero, List.getElem_cons_succ, List.setIfInBounds_toArray, List.set_cons_zero, List.set_cons_succ]
            refine wpAnyH_done (by kernel_rfl) ?_ _
            have B9 := aside (bthen HB.out hHeld.2.out)
            clear hHeld SX bb
            go_wp2
            go_roundw
            case rel => exact ⟨k + 1, by go_num, by omega, (fun j b hj hb => by
              rcases Nat.lt_succ_iff_lt_or_eq.1 hj with h9 | h9
              · exact HAL.out j b h9 hb
              · subst h9; rw [HY.out] at hb; injection hb with hb; subst hb; exact HD.out), B9.out⟩
            case measure => simp [intOf] <;> omega
          | false =>
            have HEX := aside (show ∀ b, M[k]? = some b → ¬ alt b ((o, l, k9), t) from fun b hb => by rw [HY.out] at hb; injection hb with hb; subst hb; simpa using hd)
            clear hd
            go_wp2_with fail
            refine wp_region_held_drew (S := fun W => ((W.cell? ⟨g, k * 4, none⟩ = some (.int .i64 yo) ∧ W.cell? ⟨g, k * 4 + 1, none⟩ = some (.int .i64 yl) ∧ W.cell? ⟨g, k * 4 + 2, none⟩ = some (.int .i64 yk) ∧ W.cell? ⟨g, k * 4 + 3, none⟩ = some (.int .i64 yt)) ∧ W.cell? ⟨q8, 0, none⟩ = some (.int .i64 o) ∧ W.cell? ⟨q8, 1, none⟩ = some (.int .i64 l) ∧ W.cell? ⟨q8, 2, none⟩ = some (.int .i64 k9) ∧ W.cell? ⟨q8, 3, none⟩ = some (.int .i64 t)) ∧ Hid (Below wr.heap.size wr W)) (by kernel_rfl) ⟨SX.out _ (Below.refl _ wr).drew, aside (Below.refl _ wr).drew⟩ (fun hHeld => ?_)
            refine wpAnyH_take (i := 0) (v := ?_) rfl (by kernel_rfl) (by kernel_rfl) (by kernel_rfl) (fun _ _ _ h => h) (Or.inl ⟨by rfl, ?_⟩) (by assumption) ?_
            rotate_left
            · intro w hSw
              go_simp
              try with_reducible rfl
            simp only [Act.put, List.getElem_toArray, List.getElem_cons_zero, List.setIfInBounds_toArray, List.set_cons_zero, List.set_cons_succ]
            refine wpAnyH_take (i := 1) (v := ?_) rfl (by kernel_rfl) (by kernel_rfl) (by kernel_rfl) (fun _ _ _ h => h) (Or.inl ⟨by rfl, ?_⟩) (by assumption) ?_
            rotate_left
            · intro w hSw
              go_simp
              try with_reducible rfl
            simp only [Act.put, List.getElem_toArray, List.getElem_cons_zero, List.getElem_cons_succ, List.setIfInBounds_toArray, List.set_cons_zero, List.set_cons_succ]
            refine wpAnyH_take (i := 2) (v := ?_) rfl (by kernel_rfl) (by kernel_rfl) (by kernel_rfl) (fun _ _ _ h => h) (Or.inl ⟨by rfl, ?_⟩) (by assumption) ?_
            rotate_left
            · intro w hSw
              go_simp
              try with_reducible rfl
            simp only [Act.put, List.getElem_toArray, List.getElem_cons_zero, List.getElem_cons_succ, List.setIfInBounds_toArray, List.set_cons_zero, List.set_cons_succ]
            refine wpAnyH_take (i := 3) (v := ?_) rfl (by kernel_rfl) (by kernel_rfl) (by kernel_rfl) (fun _ _ _ h => h) (Or.inl ⟨by rfl, ?_⟩) (by assumption) ?_
            rotate_left
            · intro w hSw
              go_simp
              try with_reducible rfl
            simp only [Act.put, List.getElem_toArray, List.getElem_cons_zero, List.getElem_cons_succ, List.setIfInBounds_toArray, List.set_cons_zero, List.set_cons_succ]
            refine wpAnyH_take (i := 4) (v := ?_) rfl (by kernel_rfl) (by kernel_rfl) (by kernel_rfl) (fun _ _ _ h => h) (Or.inl ⟨by rfl, ?_⟩) (by assumption) ?_
            rotate_left
            · intro w hSw
              go_simp
              try with_reducible rfl
            simp only [Act.put, List.getElem_toArray, List.getElem_cons_zero, List.getElem_cons_succ, List.setIfInBounds_toArray, List.set_cons_zero, List.set_cons_succ]
            refine wpAnyH_take (i := 5) (v := ?_) rfl (by kernel_rfl) (by kernel_rfl) (by kernel_rfl) (fun _ _ _ h => h) (Or.inl ⟨by rfl, ?_⟩) (by assumption) ?_
            rotate_left
            · intro w hSw
              go_simp
              try with_reducible rfl
            simp only [Act.put, List.getElem_toArray, List.getElem_cons_zero, List.getElem_cons_succ, List.setIfInBounds_toArray, List.set_cons_zero, List.set_cons_succ]
            refine wpAnyH_take (i := 6) (v := ?_) rfl (by kernel_rfl) (by kernel_rfl) (by kernel_rfl) (fun _ _ _ h => h) (Or.inl ⟨by rfl, ?_⟩) (by assumption) ?_
            rotate_left
            · intro w hSw
              go_simp
              try with_reducible rfl
            simp only [Act.put, List.getElem_toArray, List.getElem_cons_zero, List.getElem_cons_succ, List.setIfInBounds_toArray, List.set_cons_zero, List.set_cons_succ]
            refine wpAnyH_take (i := 7) (v := ?_) rfl (by kernel_rfl) (by kernel_rfl) (by kernel_rfl) (fun _ _ _ h => h) (Or.inl ⟨by rfl, ?_⟩) (by assumption) ?_
            rotate_left
            · intro w hSw
              go_simp
              try with_reducible rfl
            simp only [Act.put, List.getElem_toArray, List.getElem_cons_zero, List.getElem_cons_succ, List.setIfInBounds_toArray, List.set_cons_zero, List.set_cons_succ]
            refine wpAnyH_take (i := 8) (v := ?_) rfl (by kernel_rfl) (by kernel_rfl) (by kernel_rfl) (fun _ _ _ h => h) (Or.inl ⟨by rfl, ?_⟩) (by assumption) ?_
            rotate_left
            · intro w hSw
              go_simp
              try with_reducible rfl
            simp only [Act.put, List.getElem_toArray, List.getElem_cons_zero, List.getElem_cons_succ, List.setIfInBounds_toArray, List.set_cons_zero, List.set_cons_succ]
            refine wpAnyH_take (i := 9) (v := ?_) rfl (by kernel_rfl) (by kernel_rfl) (by kernel_rfl) (fun _ _ _ h => h) (Or.inl ⟨by rfl, ?_⟩) (by assumption) ?_
            rotate_left
            · intro w hSw
              go_simp
              try with_reducible rfl
            simp only [Act.put, List.getElem_toArray, List.getElem_cons_zero, List.getElem_cons_succ, List.setIfInBounds_toArray, List.set_cons_zero, List.set_cons_succ]
            refine wpAnyH_ready (rs := [10]) (by kernel_rfl) (by simp) ?_
            refine AllReadyH.cons rfl (fun K hK => ?_) AllReadyH.nil
            go_simp
            refine (CF.out _).mono ?_
            rintro e w9 ⟨rfl, bb⟩
            refine hK.out _ _ (⟨SX.out _ (bthen (Below.refl _ wr).drew bb), aside (bthen (Below.refl _ wr).drew bb)⟩) (fun hHeld => ?_)
            clear hK K 
            refine wpAnyH_take (i := 11) (v := ?_) rfl (by kernel_rfl) (by kernel_rfl) (by kernel_rfl) (fun _ _ _ h => h) (Or.inl ⟨by rfl, ?_⟩) (by assumption) ?_
            rotate_left
            · intro w hSw
              go_simp
              try with_reducible rfl
            simp only [Act.put, List.getElem_toArray, List.getElem_cons_zero, List.getElem_cons_succ, List.setIfInBounds_toArray, List.set_cons_zero, List.set_cons_succ]
            refine wpAnyH_done (by kernel_rfl) ?_ _
            have B9 := aside (bthen HB.out hHeld.2.out)
            clear hHeld SX bb
            have HI := aside (show insA ((o, l, k9), t) M = M.take k ++ ((o, l, k9), t) :: M.drop k from insA_at hk (fun j a hj ha => HAL.out j a hj ha) HEX.out)
            have hk0 : (0 : Int) ≤ (k : Int) := by omega
            have hkl : (k : Int) ≤ (M.length : Int) := by omega
            have hkc : (k : Int) ≤ (c : Int) := by have := HCM.out.1; omega
            have hcm : (c : Int) ≤ 9223372036854775807 := by have := HCM.out.2; unfold maxLen at this; omega
            have hmc : (M.length : Int) ≤ (c : Int) := by have := HCM.out.1; omega
            clear HAL HEX hlk
            have K8 := aside (blk_on KA.out B9.out)
            have OM := aside (own_on O1.out (bthen B2.out B9.out))
            have BX := aside (bthen B1.out (bthen B2.out B9.out))
            have O0 := aside (show (w9.alloc (.cells #[] 57)).ownsRow w9.heap.size 57 4 (.slice (some ⟨w9.heap.size, 0, none⟩) 0 0) 0 (alCells []) from ⟨rfl, .inr ⟨w9.heap.size, 0, #[], rfl, Nat.le_refl _, heap_alloc_new w9 _, Nat.le_refl _, Nat.zero_le _, rfl, rfl⟩⟩)
            have BY := aside (bnew w9 (.cells #[] 57))
            have OMa := aside (own_on OM.out BY.out)
            go_wp2_with (at_builtin; go_loud (refine wpList_plain rfl fun K hK => op_append_al Try.underlying50 infoR _ _ rfl w9.heap.size 0 k (.slice (some ⟨w9.heap.size, 0, none⟩) 0 0) [] (M.take k) (by rfl) O0.out ⟨g, 0, none⟩ c (by rfl) (by rw [List.length_take]; omega) (al_take OMa.out) (by have := LM.out; omega) BY.out.size ?_); intro v4 w4 own4 gr4; refine hK _ _ ?_; refine Hid.out ?_)
            refine aside ?_
            rw [Nat.zero_add, List.nil_append] at own4
            have O4 := aside own4
            have B4 := aside (BY.out.grown gr4 BY.out.size (fun j e => (O0.out.lt j e).1))
            obtain ⟨a4, c4, rfl, -⟩ := own_slice own4
            have K84 := aside (blk_on K8.out B4.out)
            obtain ⟨s0, s1, s2, s3⟩ := four K84.out
            have KN := aside (heap_alloc_new w4 (.cells #[.int .i64 o, .int .i64 l, .int .i64 k9, .int .i64 t] 57))
            have BN := aside (bnew w4 (.cells #[.int .i64 o, .int .i64 l, .int .i64 k9, .int .i64 t] 57))
            have O4a := aside (own_on O4.out BN.out)
            clear own4 gr4
            go_wp2_with (at_builtin; go_loud (refine wpList_plain rfl fun K hK => op_append_al Try.underlying50 infoR _ _ rfl w9.heap.size k 1 (.slice a4 k c4) (M.take k) [((o, l, k9), t)] (by rfl) O4a.out ⟨w4.heap.size, 0, none⟩ 1 (by rfl) rfl (al_news KN.out) (by have := LM.out; omega) (bthen B4.out BN.out).size ?_); intro v5 w5 own5 gr5; refine hK _ _ ?_; refine Hid.out ?_)
            refine aside ?_
            have O5 := aside own5
            have B5 := aside ((bthen B4.out BN.out).grown gr5 (bthen B4.out BN.out).size (fun j e => (O4a.out.lt j e).1))
            have OM5 := aside (own_on OM.out B5.out)
            obtain ⟨a5, c5, rfl, -⟩ := own_slice own5
            obtain ⟨u9, hu9, hrow9⟩ := HH.out.below (bthen BX.out B5.out)
            have HU5 := aside hu9
            clear own5 gr5 s0 s1 s2 s3 hu9 hrow9
            by_cases hck : c = k
            · have hMk : M.length = k := by have := HCM.out.1; omega
              have DN := aside (show M.drop k = [] from List.drop_of_length_le (by omega))
              go_wp2_with (at_builtin; go_loud (refine wpList_plain rfl fun K hK => op_append_al Try.underlying50 infoR _ _ rfl w9.heap.size (k + 1) _ (.slice a5 (k + 1) c5) (M.take k ++ [((o, l, k9), t)]) (M.drop k) (by rfl) O5.out ⟨g, 0, none⟩ _ (by rfl) (by rw [DN.out]; first | rfl | (simp; done) | (simp; omega)) (by rw [DN.out]; intro j u hj; simp [alCells] at hj) (by have := LM.out; omega) B5.out.size ?_); intro v6 w6 own6 gr6; refine hK _ _ ?_; refine Hid.out ?_)
              refine aside ?_
              have B6 := aside (B5.out.grown gr6 B5.out.size (fun j e => (O5.out.lt j e).1))
              rw [List.append_assoc, show [((o, l, k9), t)] ++ M.drop k = ((o, l, k9), t) :: M.drop k from rfl, ← HI.out, ← HM.out] at own6
              have O6 := aside (show w6.ownsRow 0 57 4 v6 (putA (o, l, k9) t L).length (alCells (putA (o, l, k9) t L)) from by
                have e9 := al_len own6
                have h9 := own_low own6 (Nat.zero_le _)
                rw [← e9] at h9
                exact h9)
              have HU6 := aside (by
                obtain ⟨u9, hu9, hrow9⟩ := HH.out.below (bthen BX.out B6.out)
                exact (⟨u9, hu9⟩ : ∃ u9, w6.heap[p]? = some (.cells #[u9] 52 (0, 0))))
              obtain ⟨u6, hu6⟩ := HU6.out
              have HU7 := aside hu6
              have c0 := cell_one hu6
              have f0 := frozen_one hu6
              have DF := aside (show DTm (w6.setCell ⟨p, 0, none⟩ v6) p (putA (o, l, k9) t L) from ⟨_, set_in 0 v6 HU7.out, own_keep O6.out ((Keeps.refl (fun x => x = p) w6).setCell (p := ⟨p, 0, none⟩) (fun _ => rfl) _) (fun i cs hi e => by rw [e, HU7.out] at hi; simp at hi)⟩)
              have KS := aside ((Keeps.of_below (bthen BX.out B6.out) (fun x => x = p)).trans ((Keeps.refl (fun x => x = p) w6).setCell (p := ⟨p, 0, none⟩) (fun _ => rfl) v6))
              obtain ⟨a6, c6, hv6, -⟩ := own_slice O6.out
              clear own6 gr6 hu6
              subst hv6
              go_wp2
              go_ret
              exact ⟨ret_i64 (setE_ok HK.out).symm, by unfold setA; rw [if_pos HK.out]; exact DF.out, KS.out⟩
            · skip
              go_wp2_with (at_builtin; go_loud (refine wpList_plain rfl fun K hK => op_append_al Try.underlying50 infoR _ _ rfl w9.heap.size (k + 1) (M.length - k) (.slice a5 (k + 1) c5) (M.take k ++ [((o, l, k9), t)]) (M.drop k) (by rfl) O5.out ⟨g, k * 4, none⟩ (c - k) (by rfl) (by rw [List.length_drop]) (al_drop OM5.out) (by have := LM.out; omega) B5.out.size ?_); intro v6 w6 own6 gr6; refine hK _ _ ?_; refine Hid.out ?_)
              refine aside ?_
              have B6 := aside (B5.out.grown gr6 B5.out.size (fun j e => (O5.out.lt j e).1))
              rw [List.append_assoc, show [((o, l, k9), t)] ++ M.drop k = ((o, l, k9), t) :: M.drop k from rfl, ← HI.out, ← HM.out] at own6
              have O6 := aside (show w6.ownsRow 0 57 4 v6 (putA (o, l, k9) t L).length (alCells (putA (o, l, k9) t L)) from by
                have e9 := al_len own6
                have h9 := own_low own6 (Nat.zero_le _)
                rw [← e9] at h9
                exact h9)
              have HU6 := aside (by
                obtain ⟨u9, hu9, hrow9⟩ := HH.out.below (bthen BX.out B6.out)
                exact (⟨u9, hu9⟩ : ∃ u9, w6.heap[p]? = some (.cells #[u9] 52 (0, 0))))
              obtain ⟨u6, hu6⟩ := HU6.out
              have HU7 := aside hu6
              have c0 := cell_one hu6
              have f0 := frozen_one hu6
              have DF := aside (show DTm (w6.setCell ⟨p, 0, none⟩ v6) p (putA (o, l, k9) t L) from ⟨_, set_in 0 v6 HU7.out, own_keep O6.out ((Keeps.refl (fun x => x = p) w6).setCell (p := ⟨p, 0, none⟩) (fun _ => rfl) _) (fun i cs hi e => by rw [e, HU7.out] at hi; simp at hi)⟩)
              have KS := aside ((Keeps.of_below (bthen BX.out B6.out) (fun x => x = p)).trans ((Keeps.refl (fun x => x = p) w6).setCell (p := ⟨p, 0, none⟩) (fun _ => rfl) v6))
              obtain ⟨a6, c6, hv6, -⟩ := own_slice O6.out
              clear own6 gr6 hu6
              subst hv6
              go_wp2
              go_ret
              exact ⟨ret_i64 (setE_ok HK.out).symm, by unfold setA; rw [if_pos HK.out]; exact DF.out, KS.out⟩
        · have HEX := aside (show ∀ b, M[k]? = some b → ¬ alt b ((o, l, k9), t) from fun b hb => by rw [List.getElem?_eq_none (by omega)] at hb; cases hb)
          go_wp2_with fail
          refine wp_region_held_drew (S := fun W => Hid (Below wr.heap.size wr W)) (by kernel_rfl) (aside (Below.refl _ wr).drew) (fun hHeld => ?_)
          refine wpAnyH_take (i := 0) (v := ?_) rfl (by kernel_rfl) (by kernel_rfl) (by kernel_rfl) (fun _ _ _ h => h) (Or.inl ⟨by rfl, ?_⟩) (by assumption) ?_
          rotate_left
          · intro w hSw
            go_simp
            try with_reducible rfl
          simp only [Act.put, List.getElem_toArray, List.getElem_cons_zero, List.setIfInBounds_toArray, List.set_cons_zero, List.set_cons_succ]
          refine wpAnyH_take (i := 1) (v := ?_) rfl (by kernel_rfl) (by kernel_rfl) (by kernel_rfl) (fun _ _ _ h => h) (Or.inl ⟨by rfl, ?_⟩) (by assumption) ?_
          rotate_left
          · intro w hSw
            go_simp
            try with_reducible rfl
          simp only [Act.put, List.getElem_toArray, List.getElem_cons_zero, List.getElem_cons_succ, List.setIfInBounds_toArray, List.set_cons_zero, List.set_cons_succ]
          refine wpAnyH_take (i := 2) (v := ?_) rfl (by kernel_rfl) (by kernel_rfl) (by kernel_rfl) (fun _ _ _ h => h) (Or.inl ⟨by rfl, ?_⟩) (by assumption) ?_
          rotate_left
          · intro w hSw
            go_simp
            try with_reducible rfl
          simp only [Act.put, List.getElem_toArray, List.getElem_cons_zero, List.getElem_cons_succ, List.setIfInBounds_toArray, List.set_cons_zero, List.set_cons_succ]
          refine wpAnyH_take (i := 3) (v := .bool false) rfl (by kernel_rfl) (by kernel_rfl) (by kernel_rfl) (fun _ _ _ h => h) (Or.inl ⟨by rfl, ?_⟩) (by assumption) ?_
          · intro w hSw
            go_simp
            omega
          simp only [Act.put, List.getElem_toArray, List.getElem_cons_zero, List.getElem_cons_succ, List.setIfInBounds_toArray, List.set_cons_zero, List.set_cons_succ]
          refine wpAnyH_take (i := 4) (v := ?_) rfl (by kernel_rfl) (by kernel_rfl) (by kernel_rfl) (fun _ _ _ h => h) (Or.inl ⟨by rfl, ?_⟩) (by assumption) ?_
          rotate_left
          · intro w hSw
            go_simp
            try with_reducible rfl
          simp only [Act.put, List.getElem_toArray, List.getElem_cons_zero, List.getElem_cons_succ, List.setIfInBounds_toArray, List.set_cons_zero, List.set_cons_succ]
          refine wpAnyH_take (i := 5) (v := undef) rfl (by kernel_rfl) (by kernel_rfl) (by kernel_rfl) (fun _ _ _ h => h) (Or.inr ⟨by rfl, rfl⟩) (by assumption) ?_
          simp only [Act.put, List.getElem_toArray, List.getElem_cons_zero, List.getElem_cons_succ, List.setIfInBounds_toArray, List.set_cons_zero, List.set_cons_succ]
          refine wpAnyH_take (i := 6) (v := undef) rfl (by kernel_rfl) (by kernel_rfl) (by kernel_rfl) (fun _ _ _ h => h) (Or.inr ⟨by rfl, rfl⟩) (by assumption) ?_
          simp only [Act.put, List.getElem_toArray, List.getElem_cons_zero, List.getElem_cons_succ, List.setIfInBounds_toArray, List.set_cons_zero, List.set_cons_succ]
          refine wpAnyH_take (i := 7) (v := undef) rfl (by kernel_rfl) (by kernel_rfl) (by kernel_rfl) (fun _ _ _ h => h) (Or.inr ⟨by rfl, rfl⟩) (by assumption) ?_
          simp only [Act.put, List.getElem_toArray, List.getElem_cons_zero, List.getElem_cons_succ, List.setIfInBounds_toArray, List.set_cons_zero, List.set_cons_succ]
          refine wpAnyH_take (i := 8) (v := undef) rfl (by kernel_rfl) (by kernel_rfl) (by kernel_rfl) (fun _ _ _ h => h) (Or.inr ⟨by rfl, rfl⟩) (by assumption) ?_
          simp only [Act.put, List.getElem_toArray, List.getElem_cons_zero, List.getElem_cons_succ, List.setIfInBounds_toArray, List.set_cons_zero, List.set_cons_succ]
          refine wpAnyH_take (i := 9) (v := undef) rfl (by kernel_rfl) (by kernel_rfl) (by kernel_rfl) (fun _ _ _ h => h) (Or.inr ⟨by rfl, rfl⟩) (by assumption) ?_
          simp only [Act.put, List.getElem_toArray, List.getElem_cons_zero, List.getElem_cons_succ, List.setIfInBounds_toArray, List.set_cons_zero, List.set_cons_succ]
          refine wpAnyH_take (i := 10) (v := undef) rfl (by kernel_rfl) (by kernel_rfl) (by kernel_rfl) (fun _ _ _ h => h) (Or.inr ⟨by rfl, rfl⟩) (by assumption) ?_
          simp only [Act.put, List.getElem_toArray, List.getElem_cons_zero, List.getElem_cons_succ, List.setIfInBounds_toArray, List.set_cons_zero, List.set_cons_succ]
          refine wpAnyH_take (i := 11) (v := ?_) rfl (by kernel_rfl) (by kernel_rfl) (by kernel_rfl) (fun _ _ _ h => h) (Or.inl ⟨by rfl, ?_⟩) (by assumption) ?_
          rotate_left
          · intro w hSw
            go_simp
            try with_reducible rfl
          simp only [Act.put, List.getElem_toArray, List.getElem_cons_zero, List.getElem_cons_succ, List.setIfInBounds_toArray, List.set_cons_zero, List.set_cons_succ]
          refine wpAnyH_done (by kernel_rfl) ?_ _
          have B9 := aside (bthen HB.out hHeld.out)
          clear hHeld
          generalize wr.drew = X at B9 ⊢
          have HI := aside (show insA ((o, l, k9), t) M = M.take k ++ ((o, l, k9), t) :: M.drop k from insA_at hk (fun j a hj ha => HAL.out j a hj ha) HEX.out)
          have hk0 : (0 : Int) ≤ (k : Int) := by omega
          have hkl : (k : Int) ≤ (M.length : Int) := by omega
          have hkc : (k : Int) ≤ (c : Int) := by have := HCM.out.1; omega
          have hcm : (c : Int) ≤ 9223372036854775807 := by have := HCM.out.2; unfold maxLen at this; omega
          have hmc : (M.length : Int) ≤ (c : Int) := by have := HCM.out.1; omega
          clear HAL HEX hlk
          have K8 := aside (blk_on KA.out B9.out)
          have OM := aside (own_on O1.out (bthen B2.out B9.out))
          have BX := aside (bthen B1.out (bthen B2.out B9.out))
          have O0 := aside (show (X.alloc (.cells #[] 57)).ownsRow X.heap.size 57 4 (.slice (some ⟨X.heap.size, 0, none⟩) 0 0) 0 (alCells []) from ⟨rfl, .inr ⟨X.heap.size, 0, #[], rfl, Nat.le_refl _, heap_alloc_new X _, Nat.le_refl _, Nat.zero_le _, rfl, rfl⟩⟩)
          have BY := aside (bnew X (.cells #[] 57))
          have OMa := aside (own_on OM.out BY.out)
          go_wp2_with (at_builtin; go_loud (refine wpList_plain rfl fun K hK => op_append_al Try.underlying50 infoR _ _ rfl X.heap.size 0 k (.slice (some ⟨X.heap.size, 0, none⟩) 0 0) [] (M.take k) (by rfl) O0.out ⟨g, 0, none⟩ c (by rfl) (by rw [List.length_take]; omega) (al_take OMa.out) (by have := LM.out; omega) BY.out.size ?_); intro v4 w4 own4 gr4; refine hK _ _ ?_; refine Hid.out ?_)
          refine aside ?_
          rw [Nat.zero_add, List.nil_append] at own4
          have O4 := aside own4
          have B4 := aside (BY.out.grown gr4 BY.out.size (fun j e => (O0.out.lt j e).1))
          obtain ⟨a4, c4, rfl, -⟩ := own_slice own4
          have K84 := aside (blk_on K8.out B4.out)
          obtain ⟨s0, s1, s2, s3⟩ := four K84.out
          have KN := aside (heap_alloc_new w4 (.cells #[.int .i64 o, .int .i64 l, .int .i64 k9, .int .i64 t] 57))
          have BN := aside (bnew w4 (.cells #[.int .i64 o, .int .i64 l, .int .i64 k9, .int .i64 t] 57))
          have O4a := aside (own_on O4.out BN.out)
          clear own4 gr4
          go_wp2_with (at_builtin; go_loud (refine wpList_plain rfl fun K hK => op_append_al Try.underlying50 infoR _ _ rfl X.heap.size k 1 (.slice a4 k c4) (M.take k) [((o, l, k9), t)] (by rfl) O4a.out ⟨w4.heap.size, 0, none⟩ 1 (by rfl) rfl (al_news KN.out) (by have := LM.out; omega) (bthen B4.out BN.out).size ?_); intro v5 w5 own5 gr5; refine hK _ _ ?_; refine Hid.out ?_)
          refine aside ?_
          have O5 := aside own5
          have B5 := aside ((bthen B4.out BN.out).grown gr5 (bthen B4.out BN.out).size (fun j e => (O4a.out.lt j e).1))
          have OM5 := aside (own_on OM.out B5.out)
          obtain ⟨a5, c5, rfl, -⟩ := own_slice own5
          obtain ⟨u9, hu9, hrow9⟩ := HH.out.below (bthen BX.out B5.out)
          have HU5 := aside hu9
          clear own5 gr5 s0 s1 s2 s3 hu9 hrow9
          by_cases hck : c = k
          · have hMk : M.length = k := by have := HCM.out.1; omega
            have DN := aside (show M.drop k = [] from List.drop_of_length_le (by omega))
            go_wp2_with (at_builtin; go_loud (refine wpList_plain rfl fun K hK => op_append_al Try.underlying50 infoR _ _ rfl X.heap.size (k + 1) _ (.slice a5 (k + 1) c5) (M.take k ++ [((o, l, k9), t)]) (M.drop k) (by rfl) O5.out ⟨g, 0, none⟩ _ (by rfl) (by rw [DN.out]; first | rfl | (simp; done) | (simp; omega)) (by rw [DN.out]; intro j u hj; simp [alCells] at hj) (by have := LM.out; omega) B5.out.size ?_); intro v6 w6 own6 gr6; refine hK _ _ ?_; refine Hid.out ?_)
            refine aside ?_
            have B6 := aside (B5.out.grown gr6 B5.out.size (fun j e => (O5.out.lt j e).1))
            rw [List.append_assoc, show [((o, l, k9), t)] ++ M.drop k = ((o, l, k9), t) :: M.drop k from rfl, ← HI.out, ← HM.out] at own6
            have O6 := aside (show w6.ownsRow 0 57 4 v6 (putA (o, l, k9) t L).length (alCells (putA (o, l, k9) t L)) from by
              have e9 := al_len own6
              have h9 := own_low own6 (Nat.zero_le _)
              rw [← e9] at h9
              exact h9)
            have HU6 := aside (by
              obtain ⟨u9, hu9, hrow9⟩ := HH.out.below (bthen BX.out B6.out)
              exact (⟨u9, hu9⟩ : ∃ u9, w6.heap[p]? = some (.cells #[u9] 52 (0, 0))))
            obtain ⟨u6, hu6⟩ := HU6.out
            have HU7 := aside hu6
            have c0 := cell_one hu6
            have f0 := frozen_one hu6
            have DF := aside (show DTm (w6.setCell ⟨p, 0, none⟩ v6) p (putA (o, l, k9) t L) from ⟨_, set_in 0 v6 HU7.out, own_keep O6.out ((Keeps.refl (fun x => x = p) w6).setCell (p := ⟨p, 0, none⟩) (fun _ => rfl) _) (fun i cs hi e => by rw [e, HU7.out] at hi; simp at hi)⟩)
            have KS := aside ((Keeps.of_below (bthen BX.out B6.out) (fun x => x = p)).trans ((Keeps.refl (fun x => x = p) w6).setCell (p := ⟨p, 0, none⟩) (fun _ => rfl) v6))
            obtain ⟨a6, c6, hv6, -⟩ := own_slice O6.out
            clear own6 gr6 hu6
            subst hv6
            go_wp2
            go_ret
            exact ⟨ret_i64 (setE_ok HK.out).symm, by unfold setA; rw [if_pos HK.out]; exact DF.out, KS.out⟩
          · skip
            go_wp2_with (at_builtin; go_loud (refine wpList_plain rfl fun K hK => op_append_al Try.underlying50 infoR _ _ rfl X.heap.size (k + 1) (M.length - k) (.slice a5 (k + 1) c5) (M.take k ++ [((o, l, k9), t)]) (M.drop k) (by rfl) O5.out ⟨g, k * 4, none⟩ (c - k) (by rfl) (by rw [List.length_drop]) (al_drop OM5.out) (by have := LM.out; omega) B5.out.size ?_); intro v6 w6 own6 gr6; refine hK _ _ ?_; refine Hid.out ?_)
            refine aside ?_
            have B6 := aside (B5.out.grown gr6 B5.out.size (fun j e => (O5.out.lt j e).1))
            rw [List.append_assoc, show [((o, l, k9), t)] ++ M.drop k = ((o, l, k9), t) :: M.drop k from rfl, ← HI.out, ← HM.out] at own6
            have O6 := aside (show w6.ownsRow 0 57 4 v6 (putA (o, l, k9) t L).length (alCells (putA (o, l, k9) t L)) from by
              have e9 := al_len own6
              have h9 := own_low own6 (Nat.zero_le _)
              rw [← e9] at h9
              exact h9)
            have HU6 := aside (by
              obtain ⟨u9, hu9, hrow9⟩ := HH.out.below (bthen BX.out B6.out)
              exact (⟨u9, hu9⟩ : ∃ u9, w6.heap[p]? = some (.cells #[u9] 52 (0, 0))))
            obtain ⟨u6, hu6⟩ := HU6.out
            have HU7 := aside hu6
            have c0 := cell_one hu6
            have f0 := frozen_one hu6
            have DF := aside (show DTm (w6.setCell ⟨p, 0, none⟩ v6) p (putA (o, l, k9) t L) from ⟨_, set_in 0 v6 HU7.out, own_keep O6.out ((Keeps.refl (fun x => x = p) w6).setCell (p := ⟨p, 0, none⟩) (fun _ => rfl) _) (fun i cs hi e => by rw [e, HU7.out] at hi; simp at hi)⟩)
            have KS := aside ((Keeps.of_below (bthen BX.out B6.out) (fun x => x = p)).trans ((Keeps.refl (fun x => x = p) w6).setCell (p := ⟨p, 0, none⟩) (fun _ => rfl) v6))
            obtain ⟨a6, c6, hv6, -⟩ := own_slice O6.out
            clear own6 gr6 hu6
            subst hv6
            go_wp2
            go_ret
            exact ⟨ret_i64 (setE_ok HK.out).symm, by unfold setA; rw [if_pos HK.out]; exact DF.out, KS.out⟩

end Go.Proofs.Ytoajgacofmodoaa

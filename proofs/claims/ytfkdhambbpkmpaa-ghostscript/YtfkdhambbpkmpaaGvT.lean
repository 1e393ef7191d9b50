/-
  Wrote of the document's ghost.
-/
import Derived.Test.YtfkdhambbpkmpaaGwA
namespace Go.Proofs.Ytfkdhambbpkmpaa
open Go.RowKit
set_option linter.unusedVariables false

theorem Rh.nq {w : World} {B q : Nat} {va : Value} {L : List En} {H : Nat → Hd} (h : Rh w B q va L H) : ¬ va.ownBlock = some q := fun e => by
  obtain ⟨-, cs, h3⟩ := row_blkM h.all e
  rw [h.bx] at h3
  injection h3 with h3
  injection h3 with _ h3
  exact absurd h3 (by decide)
theorem Rh.hq {w : World} {B q : Nat} {va : Value} {L : List En} {H : Nat → Hd} (h : Rh w B q va L H) {i j : Nat} (hi : i < 8) (hj : (H i).v.ownBlock = some j) : ¬ j = q := fun e => by
  obtain ⟨-, cs, h3⟩ := row_blkM (h.held i hi) hj
  rw [e, h.bx] at h3
  injection h3 with h3
  injection h3 with _ h3
  exact absurd h3 (by decide)
/-- An entry more. -/
theorem Rh.grow {w : World} {B q : Nat} {va : Value} {L : List En} {H : Nat → Hd} (h : Rh w B q va L H) {e : En} {g c : Nat} {w' : World} (own : w'.ownsRow B 31 5 (.slice (some ⟨g, 0, none⟩) (L.length + 1) c) (L.length + 1) (entCells (L ++ [e]))) (gr : w.grownBy w' va.ownBlock) (alt : va.ownBlock = some g ∨ g = w.heap.size) (hc : e.chk = 0) : Rh (w'.setCell ⟨q, 0, none⟩ (.slice (some ⟨g, 0, none⟩) (L.length + 1) c)) B q (.slice (some ⟨g, 0, none⟩) (L.length + 1) c) (L ++ [e]) H := by
  have kk : Keeps (fun k => va.ownBlock = some k) w w' := (Keeps.refl _ w).grown gr (fun k h9 _ => h9)
  have ks : Keeps (fun k => k = q ∨ va.ownBlock = some k) w (w'.setCell ⟨q, 0, none⟩ (.slice (some ⟨g, 0, none⟩) (L.length + 1) c)) := ((Keeps.refl _ w).grown gr (fun k h9 _ => .inr h9)).setCell (p := ⟨q, 0, none⟩) (fun _ => .inl rfl) _
  have b1 := blk_keep h.bx kk h.nq
  have hl : (L ++ [e]).length = L.length + 1 := by simp
  refine ⟨?_, h.qB, ?_, ?_, ?_, h.maps, h.sz, ?_⟩
  · have h1 := set_oneG (k := 0) b1 (.slice (some ⟨g, 0, none⟩) (L.length + 1) c)
    simpa using h1
  · rw [hl]
    refine ownsRow_keep own ((Keeps.refl (fun k => k = q) w').setCell (p := ⟨q, 0, none⟩) (fun _ => rfl) _) (fun j hj e2 => ?_)
    obtain ⟨-, cs, h3⟩ := row_blkM own hj
    rw [e2, b1] at h3
    injection h3 with h3
    injection h3 with _ h3
    exact absurd h3 (by decide)
  · intro x hx
    rcases List.mem_append.1 hx with h2 | h2
    · exact h.chk x h2
    · rw [List.mem_singleton.1 h2]; exact hc
  · intro i hi
    refine ownsRow_keep (h.held i hi) ks (fun j hj h2 => ?_)
    rcases h2 with h2 | h2
    · exact h.hq hi hj h2
    · exact h.ap i hi j hj h2
  · intro i hi j hj h2
    have h2 : some g = some j := h2
    injection h2 with h2
    rcases alt with h3 | h3
    · exact h.ap i hi j hj (by rw [h3, h2])
    · obtain ⟨-, cs, h4⟩ := row_blkM (h.held i hi) hj
      have := lt_of_blk h4
      omega
set_option maxHeartbeats 16000000 in
set_option maxRecDepth 100000 in
theorem rhwrote_any {w : World} {B q : Nat} {va : Value} {L : List En} {H : Nat → Hd} (h : Rh w B q va L H) (h1 : OneW L) (e : En) (hs : L.length ≤ 1073741824) : Calls Try.prog 17 #[.pointer (some ⟨q, 0, none⟩), .agg #[.string e.k, .int .i64 e.c, .int .i64 e.n, .string e.v, .bool e.d]] w fun r w' => r = .returned (.int .i64 (wroQ L e)) ∧ ∃ va', Rh w' B q va' (wroL L e) H ∧ Keeps (fun k => k = q ∨ va.ownBlock = some k) w w' ∧ (va'.ownBlock = va.ownBlock ∨ ∃ g, va'.ownBlock = some g ∧ w.heap.size ≤ g) := by
  obtain ⟨av, nL, cv, rfl, hnL⟩ : ∃ a n c, va = .slice a n c ∧ L.length = n := by
    obtain ⟨a, c, e9, -⟩ := own_slice h.all
    exact ⟨a, _, c, e9, rfl⟩
  obtain ⟨b, hb⟩ : ∃ b, w.heap.size = b := ⟨_, rfl⟩
  obtain ⟨V, hV⟩ : ∃ V, w.alloc (.cells #[.string e.k, .int .i64 e.c, .int .i64 e.n, .string e.v, .bool e.d] 31) = V := ⟨_, rfl⟩
  have kq := heap_alloc_new w (.cells #[.string e.k, .int .i64 e.c, .int .i64 e.n, .string e.v, .bool e.d] 31)
  have bq := bnew w (.cells #[.string e.k, .int .i64 e.c, .int .i64 e.n, .string e.v, .bool e.d] 31)
  rw [hV] at kq bq
  rw [hb] at kq
  have HR0 := aside (h.on bq)
  have KQ0 := aside kq
  have BQ0 := aside bq
  have HSM := aside hs
  have HLB := aside (show ∀ k, (Value.slice av nL cv).ownBlock = some k → k < b from fun k hk => by
    obtain ⟨-, cs, h3⟩ := row_blkM h.all hk
    have := lt_of_blk h3
    omega)
  have HW1 := aside (show ∀ y ∈ L, wrOf y = wrOf e → lookW L (wrOf e) = some y from fun y hy he => by rw [← he]; exact lookW_of h1 hy)
  have HW0 := aside (show (∀ y ∈ L, ¬ wrOf y = wrOf e) → lookW L (wrOf e) = none from fun h9 => by
    cases hl : lookW L (wrOf e) with
    | none => rfl
    | some t => exact absurd (lookW_mem hl).2 (h9 t (lookW_mem hl).1))
  obtain ⟨cq, hcq⟩ : ∃ c, e.chk = c := ⟨_, rfl⟩
  have HCQ := aside hcq
  have CK := aside (fun W => chk_of e W hcq _ ichkRef_any)
  have HLN := aside (show L.length ≤ 9223372036854775807 from by omega)
  have HNL := aside hnL
  have hmx : (nL : Int) ≤ 9223372036854775807 := by have := HLN.out; have := HNL.out; omega
  obtain ⟨⟨c0, c1, c2, c3, c4⟩, -⟩ := box5 kq
  clear h h1 kq bq hnL hs hcq
  go_enter Try.func17, Try.ntmps17
  go_upto_region 1 with fail
  try rw [hV]
  try rw [hb]
  clear hV hb
  go_wp2_with fail
  refine (CK.out _).mono ?_
  rintro r V1 ⟨rfl, b1⟩
  have BQ1 := aside (bthen BQ0.out b1)
  have KQ1 := aside (blk_on KQ0.out b1)
  have HR1 := aside (HR0.out.on b1)
  clear b1 CK c0 c1 c2 c3 c4 KQ0 BQ0 HR0
  by_cases h0 : cq = 0
  case neg =>
    have hz : (cq == 0) = false := by simpa using h0
    have FK := aside (Keeps.of_below BQ1.out (fun k => k = q ∨ (Value.slice av nL cv).ownBlock = some k))
    have HQ' := aside (show wroQ L e = cq from by unfold wroQ; rw [HCQ.out, if_neg h0])
    have HL' := aside (show wroL L e = L from by unfold wroL; rw [HCQ.out, if_neg h0])
    go_wp2
    go_ret
    exact ⟨by rw [HQ'.out]; rfl, _, by rw [HL'.out]; exact HR1.out, FK.out, .inl rfl⟩
  subst h0
  have HCK := aside HCQ.out
  clear HCQ
  have c0 : V1.cell? ⟨q, 0, none⟩ = some (.slice av nL cv) := by rw [cell_of_row _ _ 0 _ _ _ HR1.out.bx]; rfl
  go_wp2_with fail
  go_loopw [6] (fun i wr => ∃ j : Nat, i = .int .i64 (j : Int) ∧ j ≤ nL ∧ Hid (∀ k x, k < j → L[k]? = some x → ¬ wrOf x = wrOf e) ∧ Below V1.heap.size V1 wr) (fun i _ => nL - (intOf i).toNat)
  case atStart => exact ⟨0, rfl, Nat.zero_le _, fun k x hk => by omega, Below.refl _ _⟩
  case round =>
    have HR := HR1
    have FK0 := aside (fun W (bb : Below w.heap.size w W) => Keeps.of_below bb (fun k => k = q ∨ (Value.slice av nL cv).ownBlock = some k))
    have BQ := BQ1
    have KQ := KQ1
    have NB := aside (show ¬ (Value.slice av nL cv).ownBlock = some b from fun h9 => by have := HLB.out b h9; omega)
    obtain ⟨j, rfl, hj, HP, hB⟩ := hrel
    have HB := aside hB
    have c0 := cell_in c0 hB
    clear hB
    by_cases hlt : (j : Int) < (nL : Int)
    · have hj0 : (0 : Int) ≤ (j : Int) := by omega
      obtain ⟨x, hx⟩ : ∃ x, L[j]? = some x := ⟨L[j]'(by have := HNL.out; omega), List.getElem?_eq_getElem _⟩
      have HXM := aside (List.mem_of_getElem? hx)
      have HXJ := aside hx
      obtain ⟨g, c, e1, g0, g1, g2, g3, g4⟩ := (HR.out.on HB.out).row hx
      injection e1 with e1 _ e3
      subst e1 e3
      obtain ⟨⟨y0, y1, y2, y3, y4⟩, -⟩ := box5 (blk_on KQ.out HB.out)
      have SX := aside (fun (W : World) (bb : Below wr.heap.size wr W) => (show W.cell? ⟨q, 0, none⟩ = some (.slice (some ⟨g, 0, none⟩) nL cv) ∧ (W.cell? ⟨b, 0, none⟩ = some (.string e.k) ∧ W.cell? ⟨b, 1, none⟩ = some (.int .i64 e.c) ∧ W.cell? ⟨b, 2, none⟩ = some (.int .i64 e.n) ∧ W.cell? ⟨b, 3, none⟩ = some (.string e.v) ∧ W.cell? ⟨b, 4, none⟩ = some (.bool e.d)) ∧ W.cell? ⟨g, j * 5, none⟩ = some (.string x.k) ∧ W.cell? ⟨g, j * 5 + 1, none⟩ = some (.int .i64 x.c) ∧ W.cell? ⟨g, j * 5 + 2, none⟩ = some (.int .i64 x.n) ∧ W.cell? ⟨g, j * 5 + 3, none⟩ = some (.string x.v) ∧ W.cell? ⟨g, j * 5 + 4, none⟩ = some (.bool x.d) from
        ⟨cell_in c0 bb, ⟨cell_in y0 bb, cell_in y1 bb, cell_in y2 bb, cell_in y3 bb, cell_in y4 bb⟩, cell_in g0 bb, cell_in g1 bb, cell_in g2 bb, cell_in g3 bb, cell_in g4 bb⟩))
      clear hx g0 g1 g2 g3 g4 y0 y1 y2 y3 y4
      by_cases hkk : x.k = e.k
      · by_cases hvv : x.c = e.c ∧ x.n = e.n
        · skip
          have hVQ : ∀ W, (binOp .eql 29 (.agg #[.int .i64 x.c, .int .i64 x.n]) (.agg #[.int .i64 e.c, .int .i64 e.n])).run Try.prog W = .ok (.bool true) W := fun W => by
            rw [verq_run, hvv.1, hvv.2]; simp
          have hS : (x.k.toList == e.k.toList) = true := by rw [hkk]; simp
          have HWE := aside (show wrOf x = wrOf e from by unfold wrOf; rw [hkk, hvv.1, hvv.2])
          have HLK := aside (HW1.out x HXM.out HWE.out)
          obtain ⟨z, hz⟩ : ∃ z, enEqB x e = z := ⟨_, rfl⟩
          have hEQ := fun W => ent_ne x e W
          rw [hz] at hEQ
          have HZ := aside hz
          clear hkk hvv hz
          go_wp2_with fail
          refine wp_region_held_drew (S := fun W => W.cell? ⟨q, 0, none⟩ = some (.slice (some ⟨g, 0, none⟩) nL cv) ∧ (W.cell? ⟨b, 0, none⟩ = some (.string e.k) ∧ W.cell? ⟨b, 1, none⟩ = some (.int .i64 e.c) ∧ W.cell? ⟨b, 2, none⟩ = some (.int .i64 e.n) ∧ W.cell? ⟨b, 3, none⟩ = some (.string e.v) ∧ W.cell? ⟨b, 4, none⟩ = some (.bool e.d)) ∧ W.cell? ⟨g, j * 5, none⟩ = some (.string x.k) ∧ W.cell? ⟨g, j * 5 + 1, none⟩ = some (.int .i64 x.c) ∧ W.cell? ⟨g, j * 5 + 2, none⟩ = some (.int .i64 x.n) ∧ W.cell? ⟨g, j * 5 + 3, none⟩ = some (.string x.v) ∧ W.cell? ⟨g, j * 5 + 4, none⟩ = some (.bool x.d)) (by kernel_rfl) (SX.out _ (Below.refl _ wr).drew) (fun hHeld => ?_)
          refine wpAnyH_take (i := 0) (v := ?_) rfl (by kernel_rfl) (by kernel_rfl) (by kernel_rfl) (fun _ _ _ h => h) (Or.inl ⟨by rfl, ?_⟩) (by assumption) ?_
          rotate_left
          · intro w hSw
            go_simp
            try with_reducible rfl
          simp only [Act.put, List.getElem_toArray, List.getElem_cons_zero, List.setIfInBounds_toArray, List.set_cons_zero, List.set_cons_succ]
          refine wpAnyH_take (i := 1) (v := ?_) rfl (by kernel_rfl) (by kernel_rfl) (by kernel_rfl) (fun _ _ _ h => h) (Or.inl ⟨by rfl, ?_⟩) (by assumption) ?_
          rotate_left
          · intro w hSw
            go_simp
            try with_reducible rfl
          simp only [Act.put, List.getElem_toArray, List.getElem_cons_zero, List.getElem_cons_succ, List.setIfInBounds_toArray, List.set_cons_zero, List.set_cons_succ]
          refine wpAnyH_take (i := 2) (v := ?_) rfl (by kernel_rfl) (by kernel_rfl) (by kernel_rfl) (fun _ _ _ h => h) (Or.inl ⟨by rfl, ?_⟩) (by assumption) ?_
          rotate_left
          · intro w hSw
            go_simp
            try with_reducible rfl
          simp only [Act.put, List.getElem_toArray, List.getElem_cons_zero, List.getElem_cons_succ, List.setIfInBounds_toArray, List.set_cons_zero, List.set_cons_succ]
          refine wpAnyH_take (i := 3) (v := ?_) rfl (by kernel_rfl) (by kernel_rfl) (by kernel_rfl) (fun _ _ _ h => h) (Or.inl ⟨by rfl, ?_⟩) (by assumption) ?_
          rotate_left
          · intro w hSw
            go_simp
            try with_reducible rfl
          simp only [Act.put, List.getElem_toArray, List.getElem_cons_zero, List.getElem_cons_succ, List.setIfInBounds_toArray, List.set_cons_zero, List.set_cons_succ]
          refine wpAnyH_take (i := 4) (v := ?_) rfl (by kernel_rfl) (by kernel_rfl) (by kernel_rfl) (fun _ _ _ h => h) (Or.inl ⟨by rfl, ?_⟩) (by assumption) ?_
          rotate_left
          · intro w hSw
            go_simp
            try with_reducible rfl
          simp only [Act.put, List.getElem_toArray, List.getElem_cons_zero, List.getElem_cons_succ, List.setIfInBounds_toArray, List.set_cons_zero, List.set_cons_succ]
          refine wpAnyH_take (i := 5) (v := ?_) rfl (by kernel_rfl) (by kernel_rfl) (by kernel_rfl) (fun _ _ _ h => h) (Or.inl ⟨by rfl, ?_⟩) (by assumption) ?_
          rotate_left
          · intro w hSw
            go_simp
            try with_reducible rfl
          simp only [Act.put, List.getElem_toArray, List.getElem_cons_zero, List.getElem_cons_succ, List.setIfInBounds_toArray, List.set_cons_zero, List.set_cons_succ]
          refine wpAnyH_take (i := 6) (v := ?_) rfl (by kernel_rfl) (by kernel_rfl) (by kernel_rfl) (fun _ _ _ h => h) (Or.inl ⟨by rfl, ?_⟩) (by assumption) ?_
          rotate_left
          · intro w hSw
            go_simp
            try with_reducible rfl
          simp only [Act.put, List.getElem_toArray, List.getElem_cons_zero, List.getElem_cons_succ, List.setIfInBounds_toArray, List.set_cons_zero, List.set_cons_succ]
          refine wpAnyH_take (i := 7) (v := ?_) rfl (by kernel_rfl) (by kernel_rfl) (by kernel_rfl) (fun _ _ _ h => h) (Or.inl ⟨by rfl, ?_⟩) (by assumption) ?_
          rotate_left
          · intro w hSw
            go_simp
            try with_reducible rfl
          simp only [Act.put, List.getElem_toArray, List.getElem_cons_zero, List.getElem_cons_succ, List.setIfInBounds_toArray, List.set_cons_zero, List.set_cons_succ]
          refine wpAnyH_take (i := 8) (v := ?_) rfl (by kernel_rfl) (by kernel_rfl) (by kernel_rfl) (fun _ _ _ h => h) (Or.inl ⟨by rfl, ?_⟩) (by assumption) ?_
          rotate_left
          · intro w hSw
            go_simp
            try with_reducible rfl
          simp only [Act.put, List.getElem_toArray, List.getElem_cons_zero, List.getElem_cons_succ, List.setIfInBounds_toArray, List.set_cons_zero, List.set_cons_succ]
          refine wpAnyH_take (i := 9) (v := ?_) rfl (by kernel_rfl) (by kernel_rfl) (by kernel_rfl) (fun _ _ _ h => h) (Or.inl ⟨by rfl, ?_⟩) (by assumption) ?_
          rotate_left
          · intro w hSw
            go_simp
            try with_reducible rfl
          simp only [Act.put, List.getElem_toArray, List.getElem_cons_zero, List.getElem_cons_succ, List.setIfInBounds_toArray, List.set_cons_zero, List.set_cons_succ]
          refine wpAnyH_take (i := 10) (v := ?_) rfl (by kernel_rfl) (by kernel_rfl) (by kernel_rfl) (fun _ _ _ h => h) (Or.inl ⟨by rfl, ?_⟩) (by assumption) ?_
          rotate_left
          · intro w hSw
            go_simp
            try with_reducible rfl
          simp only [Act.put, List.getElem_toArray, List.getElem_cons_zero, List.getElem_cons_succ, List.setIfInBounds_toArray, List.set_cons_zero, List.set_cons_succ]
          refine wpAnyH_take (i := 11) (v := ?_) rfl (by kernel_rfl) (by kernel_rfl) (by kernel_rfl) (fun _ _ _ h => h) (Or.inl ⟨by rfl, ?_⟩) (by assumption) ?_
          rotate_left
          · intro w hSw
            go_simp
            try with_reducible rfl
          simp only [Act.put, List.getElem_toArray, List.getElem_cons_zero, List.getElem_cons_succ, List.setIfInBounds_toArray, List.set_cons_zero, List.set_cons_succ]
          refine wpAnyH_take (i := 12) (v := ?_) rfl (by kernel_rfl) (by kernel_rfl) (by kernel_rfl) (fun _ _ _ h => h) (Or.inl ⟨by rfl, ?_⟩) (by assumption) ?_
          rotate_left
          · intro w hSw
            go_simp
            try with_reducible rfl
          simp only [Act.put, List.getElem_toArray, List.getElem_cons_zero, List.getElem_cons_succ, List.setIfInBounds_toArray, List.set_cons_zero, List.set_cons_succ]
          refine wpAnyH_take (i := 13) (v := ?_) rfl (by kernel_rfl) (by kernel_rfl) (by kernel_rfl) (fun _ _ _ h => h) (Or.inl ⟨by rfl, ?_⟩) (by assumption) ?_
          rotate_left
          · intro w hSw
            go_simp
            try with_reducible rfl
          simp only [Act.put, List.getElem_toArray, List.getElem_cons_zero, List.getElem_cons_succ, List.setIfInBounds_toArray, List.set_cons_zero, List.set_cons_succ]
          refine wpAnyH_take (i := 14) (v := ?_) rfl (by kernel_rfl) (by kernel_rfl) (by kernel_rfl) (fun _ _ _ h => h) (Or.inl ⟨by rfl, ?_⟩) (by assumption) ?_
          rotate_left
          · intro w hSw
            go_simp
            try with_reducible rfl
          simp only [Act.put, List.getElem_toArray, List.getElem_cons_zero, List.getElem_cons_succ, List.setIfInBounds_toArray, List.set_cons_zero, List.set_cons_succ]
          refine wpAnyH_take (i := 15) (v := ?_) rfl (by kernel_rfl) (by kernel_rfl) (by kernel_rfl) (fun _ _ _ h => h) (Or.inl ⟨by rfl, ?_⟩) (by assumption) ?_
          rotate_left
          · intro w hSw
            go_simp
            try with_reducible rfl
          simp only [Act.put, List.getElem_toArray, List.getElem_cons_zero, List.getElem_cons_succ, List.setIfInBounds_toArray, List.set_cons_zero, List.set_cons_succ]
          refine wpAnyH_take (i := 16) (v := ?_) rfl (by kernel_rfl) (by kernel_rfl) (by kernel_rfl) (fun _ _ _ h => h) (Or.inl ⟨by rfl, ?_⟩) (by assumption) ?_
          rotate_left
          · intro w hSw
            go_simp
            try with_reducible rfl
          simp only [Act.put, List.getElem_toArray, List.getElem_cons_zero, List.getElem_cons_succ, List.setIfInBounds_toArray, List.set_cons_zero, List.set_cons_succ]
          refine wpAnyH_take (i := 17) (v := ?_) rfl (by kernel_rfl) (by kernel_rfl) (by kernel_rfl) (fun _ _ _ h => h) (Or.inl ⟨by rfl, ?_⟩) (by assumption) ?_
          rotate_left
          · intro w hSw
            go_simp
            try with_reducible rfl
          simp only [Act.put, List.getElem_toArray, List.getElem_cons_zero, List.getElem_cons_succ, List.setIfInBounds_toArray, List.set_cons_zero, List.set_cons_succ]
          refine wpAnyH_take (i := 18) (v := ?_) rfl (by kernel_rfl) (by kernel_rfl) (by kernel_rfl) (fun _ _ _ h => h) (Or.inl ⟨by rfl, ?_⟩) (by assumption) ?_
          rotate_left
          · intro w hSw
            go_simp
            try with_reducible rfl
          simp only [Act.put, List.getElem_toArray, List.getElem_cons_zero, List.getElem_cons_succ, List.setIfInBounds_toArray, List.set_cons_zero, List.set_cons_succ]
          refine wpAnyH_take (i := 19) (v := ?_) rfl (by kernel_rfl) (by kernel_rfl) (by kernel_rfl) (fun _ _ _ h => h) (Or.inl ⟨by rfl, ?_⟩) (by assumption) ?_
          rotate_left
          · intro w hSw
            go_simp
            try with_reducible rfl
          simp only [Act.put, List.getElem_toArray, List.getElem_cons_zero, List.getElem_cons_succ, List.setIfInBounds_toArray, List.set_cons_zero, List.set_cons_succ]
          refine wpAnyH_take (i := 20) (v := ?_) rfl (by kernel_rfl) (by kernel_rfl) (by kernel_rfl) (fun _ _ _ h => h) (Or.inl ⟨by rfl, ?_⟩) (by assumption) ?_
          rotate_left
          · intro w hSw
            go_simp
            try with_reducible rfl
          simp only [Act.put, List.getElem_toArray, List.getElem_cons_zero, List.getElem_cons_succ, List.setIfInBounds_toArray, List.set_cons_zero, List.set_cons_succ]
          refine wpAnyH_take (i := 21) (v := ?_) rfl (by kernel_rfl) (by kernel_rfl) (by kernel_rfl) (fun _ _ _ h => h) (Or.inl ⟨by rfl, ?_⟩) (by assumption) ?_
          rotate_left
          · intro w hSw
            go_simp
            try with_reducible rfl
          simp only [Act.put, List.getElem_toArray, List.getElem_cons_zero, List.getElem_cons_succ, List.setIfInBounds_toArray, List.set_cons_zero, List.set_cons_succ]
          refine wpAnyH_take (i := 22) (v := ?_) rfl (by kernel_rfl) (by kernel_rfl) (by kernel_rfl) (fun _ _ _ h => h) (Or.inl ⟨by rfl, ?_⟩) (by assumption) ?_
          rotate_left
          · intro w hSw
            go_simp
            try with_reducible rfl
          simp only [Act.put, List.getElem_toArray, List.getElem_cons_zero, List.getElem_cons_succ, List.setIfInBounds_toArray, List.set_cons_zero, List.set_cons_succ]
          refine wpAnyH_take (i := 23) (v := ?_) rfl (by kernel_rfl) (by kernel_rfl) (by kernel_rfl) (fun _ _ _ h => h) (Or.inl ⟨by rfl, ?_⟩) (by assumption) ?_
          rotate_left
          · intro w hSw
            go_simp
            try with_reducible rfl
          simp only [Act.put, List.getElem_toArray, List.getElem_cons_zero, List.getElem_cons_succ, List.setIfInBounds_toArray, List.set_cons_zero, List.set_cons_succ]
          refine wpAnyH_done (by kernel_rfl) ?_ _
          clear hHeld hS hVQ
          go_wp2_with fail
          refine wp_region_held_drew (S := fun W => W.cell? ⟨q, 0, none⟩ = some (.slice (some ⟨g, 0, none⟩) nL cv) ∧ (W.cell? ⟨b, 0, none⟩ = some (.string e.k) ∧ W.cell? ⟨b, 1, none⟩ = some (.int .i64 e.c) ∧ W.cell? ⟨b, 2, none⟩ = some (.int .i64 e.n) ∧ W.cell? ⟨b, 3, none⟩ = some (.string e.v) ∧ W.cell? ⟨b, 4, none⟩ = some (.bool e.d)) ∧ W.cell? ⟨g, j * 5, none⟩ = some (.string x.k) ∧ W.cell? ⟨g, j * 5 + 1, none⟩ = some (.int .i64 x.c) ∧ W.cell? ⟨g, j * 5 + 2, none⟩ = some (.int .i64 x.n) ∧ W.cell? ⟨g, j * 5 + 3, none⟩ = some (.string x.v) ∧ W.cell? ⟨g, j * 5 + 4, none⟩ = some (.bool x.d)) (by kernel_rfl) (SX.out _ ((Below.refl _ wr).drew).drew) (fun hHeld => ?_)
          refine wpAnyH_take (i := 0) (v := ?_) rfl (by kernel_rfl) (by kernel_rfl) (by kernel_rfl) (fun _ _ _ h => h) (Or.inl ⟨by rfl, ?_⟩) (by assumption) ?_
          rotate_left
          · intro w hSw
            go_simp
            try with_reducible rfl
          simp only [Act.put, List.getElem_toArray, List.getElem_cons_zero, List.setIfInBounds_toArray, List.set_cons_zero, List.set_cons_succ]
          refine wpAnyH_take (i := 1) (v := ?_) rfl (by kernel_rfl) (by kernel_rfl) (by kernel_rfl) (fun _ _ _ h => h) (Or.inl ⟨by rfl, ?_⟩) (by assumption) ?_
          rotate_left
          · intro w hSw
            go_simp
            try with_reducible rfl
          simp only [Act.put, List.getElem_toArray, List.getElem_cons_zero, List.getElem_cons_succ, List.setIfInBounds_toArray, List.set_cons_zero, List.set_cons_succ]
          refine wpAnyH_take (i := 2) (v := ?_) rfl (by kernel_rfl) (by kernel_rfl) (by kernel_rfl) (fun _ _ _ h => h) (Or.inl ⟨by rfl, ?_⟩) (by assumption) ?_
          rotate_left
          · intro w hSw
            go_simp
            try with_reducible rfl
          simp only [Act.put, List.getElem_toArray, List.getElem_cons_zero, List.getElem_cons_succ, List.setIfInBounds_toArray, List.set_cons_zero, List.set_cons_succ]
          refine wpAnyH_take (i := 3) (v := ?_) rfl (by kernel_rfl) (by kernel_rfl) (by kernel_rfl) (fun _ _ _ h => h) (Or.inl ⟨by rfl, ?_⟩) (by assumption) ?_
          rotate_left
          · intro w hSw
            go_simp
            try with_reducible rfl
          simp only [Act.put, List.getElem_toArray, List.getElem_cons_zero, List.getElem_cons_succ, List.setIfInBounds_toArray, List.set_cons_zero, List.set_cons_succ]
          refine wpAnyH_take (i := 4) (v := ?_) rfl (by kernel_rfl) (by kernel_rfl) (by kernel_rfl) (fun _ _ _ h => h) (Or.inl ⟨by rfl, ?_⟩) (by assumption) ?_
          rotate_left
          · intro w hSw
            go_simp
            try with_reducible rfl
          simp only [Act.put, List.getElem_toArray, List.getElem_cons_zero, List.getElem_cons_succ, List.setIfInBounds_toArray, List.set_cons_zero, List.set_cons_succ]
          refine wpAnyH_take (i := 5) (v := ?_) rfl (by kernel_rfl) (by kernel_rfl) (by kernel_rfl) (fun _ _ _ h => h) (Or.inl ⟨by rfl, ?_⟩) (by assumption) ?_
          rotate_left
          · intro w hSw
            go_simp
            try with_reducible rfl
          simp only [Act.put, List.getElem_toArray, List.getElem_cons_zero, List.getElem_cons_succ, List.setIfInBounds_toArray, List.set_cons_zero, List.set_cons_succ]
          refine wpAnyH_take (i := 6) (v := ?_) rfl (by kernel_rfl) (by kernel_rfl) (by kernel_rfl) (fun _ _ _ h => h) (Or.inl ⟨by rfl, ?_⟩) (by assumption) ?_
          rotate_left
          · intro w hSw
            go_simp
            try with_reducible rfl
          simp only [Act.put, List.getElem_toArray, List.getElem_cons_zero, List.getElem_cons_succ, List.setIfInBounds_toArray, List.set_cons_zero, List.set_cons_succ]
          refine wpAnyH_take (i := 7) (v := ?_) rfl (by kernel_rfl) (by kernel_rfl) (by kernel_rfl) (fun _ _ _ h => h) (Or.inl ⟨by rfl, ?_⟩) (by assumption) ?_
          rotate_left
          · intro w hSw
            go_simp
            try with_reducible rfl
          simp only [Act.put, List.getElem_toArray, List.getElem_cons_zero, List.getElem_cons_succ, List.setIfInBounds_toArray, List.set_cons_zero, List.set_cons_succ]
          refine wpAnyH_take (i := 8) (v := ?_) rfl (by kernel_rfl) (by kernel_rfl) (by kernel_rfl) (fun _ _ _ h => h) (Or.inl ⟨by rfl, ?_⟩) (by assumption) ?_
          rotate_left
          · intro w hSw
            go_simp
            try with_reducible rfl
          simp only [Act.put, List.getElem_toArray, List.getElem_cons_zero, List.getElem_cons_succ, List.setIfInBounds_toArray, List.set_cons_zero, List.set_cons_succ]
          refine wpAnyH_done (by kernel_rfl) ?_ _
          clear hHeld SX hEQ
          have HBD := aside (HB.out.drew.drew)
          have FL := aside (show wroL L e = L from by unfold wroL; rw [HLK.out]; simp)
          have FR := aside (HR.out.on HBD.out)
          have FK := aside (FK0.out _ (bthen BQ.out HBD.out))
          cases z
          · have FQ := aside (show wroQ L e = 190 from by unfold wroQ; rw [if_pos HCK.out, HLK.out]; simp [HZ.out])
            go_wp2
            go_ret
            exact ⟨by rw [FQ.out]; rfl, _, by rw [FL.out]; exact FR.out, FK.out, .inl rfl⟩
          · have FQ := aside (show wroQ L e = 0 from by unfold wroQ; rw [if_pos HCK.out, HLK.out]; simp [HZ.out])
            go_wp2
            go_ret
            exact ⟨by rw [FQ.out]; rfl, _, by rw [FL.out]; exact FR.out, FK.out, .inl rfl⟩
        · skip
          have hVQ : ∀ W, (binOp .eql 29 (.agg #[.int .i64 x.c, .int .i64 x.n]) (.agg #[.int .i64 e.c, .int .i64 e.n])).run Try.prog W = .ok (.bool false) W := fun W => by
            rw [verq_run]
            cases hc : (x.c == e.c && x.n == e.n) with
            | false => rfl
            | true => exact absurd (by simpa using hc) hvv
          have hS : (x.k.toList == e.k.toList) = true := by rw [hkk]; simp
          have HVV := aside hvv
          clear hkk hvv
          go_wp2_with fail
          refine wp_region_held_drew (S := fun W => W.cell? ⟨q, 0, none⟩ = some (.slice (some ⟨g, 0, none⟩) nL cv) ∧ (W.cell? ⟨b, 0, none⟩ = some (.string e.k) ∧ W.cell? ⟨b, 1, none⟩ = some (.int .i64 e.c) ∧ W.cell? ⟨b, 2, none⟩ = some (.int .i64 e.n) ∧ W.cell? ⟨b, 3, none⟩ = some (.string e.v) ∧ W.cell? ⟨b, 4, none⟩ = some (.bool e.d)) ∧ W.cell? ⟨g, j * 5, none⟩ = some (.string x.k) ∧ W.cell? ⟨g, j * 5 + 1, none⟩ = some (.int .i64 x.c) ∧ W.cell? ⟨g, j * 5 + 2, none⟩ = some (.int .i64 x.n) ∧ W.cell? ⟨g, j * 5 + 3, none⟩ = some (.string x.v) ∧ W.cell? ⟨g, j * 5 + 4, none⟩ = some (.bool x.d)) (by kernel_rfl) (SX.out _ (Below.refl _ wr).drew) (fun hHeld => ?_)
          refine wpAnyH_take (i := 0) (v := ?_) rfl (by kernel_rfl) (by kernel_rfl) (by kernel_rfl) (fun _ _ _ h => h) (Or.inl ⟨by rfl, ?_⟩) (by assumption) ?_
          rotate_left
          · intro w hSw
            go_simp
            try with_reducible rfl
          simp only [Act.put, List.getElem_toArray, List.getElem_cons_zero, List.setIfInBounds_toArray, List.set_cons_zero, List.set_cons_succ]
          refine wpAnyH_take (i := 1) (v := ?_) rfl (by kernel_rfl) (by kernel_rfl) (by kernel_rfl) (fun _ _ _ h => h) (Or.inl ⟨by rfl, ?_⟩) (by assumption) ?_
          rotate_left
          · intro w hSw
            go_simp
            try with_reducible rfl
          simp only [Act.put, List.getElem_toArray, List.getElem_cons_zero, List.getElem_cons_succ, List.setIfInBounds_toArray, List.set_cons_zero, List.set_cons_succ]
          refine wpAnyH_take (i := 2) (v := ?_) rfl (by kernel_rfl) (by kernel_rfl) (by kernel_rfl) (fun _ _ _ h => h) (Or.inl ⟨by rfl, ?_⟩) (by assumption) ?_
          rotate_left
          · intro w hSw
            go_simp
            try with_reducible rfl
          simp only [Act.put, List.getElem_toArray, List.getElem_cons_zero, List.getElem_cons_succ, List.setIfInBounds_toArray, List.set_cons_zero, List.set_cons_succ]
          refine wpAnyH_take (i := 3) (v := ?_) rfl (by kernel_rfl) (by kernel_rfl) (by kernel_rfl) (fun _ _ _ h => h) (Or.inl ⟨by rfl, ?_⟩) (by assumption) ?_
          rotate_left
          · intro w hSw
            go_simp
            try with_reducible rfl
          simp only [Act.put, List.getElem_toArray, List.getElem_cons_zero, List.getElem_cons_succ, List.setIfInBounds_toArray, List.set_cons_zero, List.set_cons_succ]
          refine wpAnyH_take (i := 4) (v := ?_) rfl (by kernel_rfl) (by kernel_rfl) (by kernel_rfl) (fun _ _ _ h => h) (Or.inl ⟨by rfl, ?_⟩) (by assumption) ?_
          rotate_left
          · intro w hSw
            go_simp
            try with_reducible rfl
          simp only [Act.put, List.getElem_toArray, List.getElem_cons_zero, List.getElem_cons_succ, List.setIfInBounds_toArray, List.set_cons_zero, List.set_cons_succ]
          refine wpAnyH_take (i := 5) (v := ?_) rfl (by kernel_rfl) (by kernel_rfl) (by kernel_rfl) (fun _ _ _ h => h) (Or.inl ⟨by rfl, ?_⟩) (by assumption) ?_
          rotate_left
          · intro w hSw
            go_simp
            try with_reducible rfl
          simp only [Act.put, List.getElem_toArray, List.getElem_cons_zero, List.getElem_cons_succ, List.setIfInBounds_toArray, List.set_cons_zero, List.set_cons_succ]
          refine wpAnyH_take (i := 6) (v := ?_) rfl (by kernel_rfl) (by kernel_rfl) (by kernel_rfl) (fun _ _ _ h => h) (Or.inl ⟨by rfl, ?_⟩) (by assumption) ?_
          rotate_left
          · intro w hSw
            go_simp
            try with_reducible rfl
          simp only [Act.put, List.getElem_toArray, List.getElem_cons_zero, List.getElem_cons_succ, List.setIfInBounds_toArray, List.set_cons_zero, List.set_cons_succ]
          refine wpAnyH_take (i := 7) (v := ?_) rfl (by kernel_rfl) (by kernel_rfl) (by kernel_rfl) (fun _ _ _ h => h) (Or.inl ⟨by rfl, ?_⟩) (by assumption) ?_
          rotate_left
          · intro w hSw
            go_simp
            try with_reducible rfl
          simp only [Act.put, List.getElem_toArray, List.getElem_cons_zero, List.getElem_cons_succ, List.setIfInBounds_toArray, List.set_cons_zero, List.set_cons_succ]
          refine wpAnyH_take (i := 8) (v := ?_) rfl (by kernel_rfl) (by kernel_rfl) (by kernel_rfl) (fun _ _ _ h => h) (Or.inl ⟨by rfl, ?_⟩) (by assumption) ?_
          rotate_left
          · intro w hSw
            go_simp
            try with_reducible rfl
          simp only [Act.put, List.getElem_toArray, List.getElem_cons_zero, List.getElem_cons_succ, List.setIfInBounds_toArray, List.set_cons_zero, List.set_cons_succ]
          refine wpAnyH_take (i := 9) (v := ?_) rfl (by kernel_rfl) (by kernel_rfl) (by kernel_rfl) (fun _ _ _ h => h) (Or.inl ⟨by rfl, ?_⟩) (by assumption) ?_
          rotate_left
          · intro w hSw
            go_simp
            try with_reducible rfl
          simp only [Act.put, List.getElem_toArray, List.getElem_cons_zero, List.getElem_cons_succ, List.setIfInBounds_toArray, List.set_cons_zero, List.set_cons_succ]
          refine wpAnyH_take (i := 10) (v := ?_) rfl (by kernel_rfl) (by kernel_rfl) (by kernel_rfl) (fun _ _ _ h => h) (Or.inl ⟨by rfl, ?_⟩) (by assumption) ?_
          rotate_left
          · intro w hSw
            go_simp
            try with_reducible rfl
          simp only [Act.put, List.getElem_toArray, List.getElem_cons_zero, List.getElem_cons_succ, List.setIfInBounds_toArray, List.set_cons_zero, List.set_cons_succ]
          refine wpAnyH_take (i := 11) (v := ?_) rfl (by kernel_rfl) (by kernel_rfl) (by kernel_rfl) (fun _ _ _ h => h) (Or.inl ⟨by rfl, ?_⟩) (by assumption) ?_
          rotate_left
          · intro w hSw
            go_simp
            try with_reducible rfl
          simp only [Act.put, List.getElem_toArray, List.getElem_cons_zero, List.getElem_cons_succ, List.setIfInBounds_toArray, List.set_cons_zero, List.set_cons_succ]
          refine wpAnyH_take (i := 12) (v := ?_) rfl (by kernel_rfl) (by kernel_rfl) (by kernel_rfl) (fun _ _ _ h => h) (Or.inl ⟨by rfl, ?_⟩) (by assumption) ?_
          rotate_left
          · intro w hSw
            go_simp
            try with_reducible rfl
          simp only [Act.put, List.getElem_toArray, List.getElem_cons_zero, List.getElem_cons_succ, List.setIfInBounds_toArray, List.set_cons_zero, List.set_cons_succ]
          refine wpAnyH_take (i := 13) (v := ?_) rfl (by kernel_rfl) (by kernel_rfl) (by kernel_rfl) (fun _ _ _ h => h) (Or.inl ⟨by rfl, ?_⟩) (by assumption) ?_
          rotate_left
          · intro w hSw
            go_simp
            try with_reducible rfl
          simp only [Act.put, List.getElem_toArray, List.getElem_cons_zero, List.getElem_cons_succ, List.setIfInBounds_toArray, List.set_cons_zero, List.set_cons_succ]
          refine wpAnyH_take (i := 14) (v := ?_) rfl (by kernel_rfl) (by kernel_rfl) (by kernel_rfl) (fun _ _ _ h => h) (Or.inl ⟨by rfl, ?_⟩) (by assumption) ?_
          rotate_left
          · intro w hSw
            go_simp
            try with_reducible rfl
          simp only [Act.put, List.getElem_toArray, List.getElem_cons_zero, List.getElem_cons_succ, List.setIfInBounds_toArray, List.set_cons_zero, List.set_cons_succ]
          refine wpAnyH_take (i := 15) (v := ?_) rfl (by kernel_rfl) (by kernel_rfl) (by kernel_rfl) (fun _ _ _ h => h) (Or.inl ⟨by rfl, ?_⟩) (by assumption) ?_
          rotate_left
          · intro w hSw
            go_simp
            try with_reducible rfl
          simp only [Act.put, List.getElem_toArray, List.getElem_cons_zero, List.getElem_cons_succ, List.setIfInBounds_toArray, List.set_cons_zero, List.set_cons_succ]
          refine wpAnyH_take (i := 16) (v := ?_) rfl (by kernel_rfl) (by kernel_rfl) (by kernel_rfl) (fun _ _ _ h => h) (Or.inl ⟨by rfl, ?_⟩) (by assumption) ?_
          rotate_left
          · intro w hSw
            go_simp
            try with_reducible rfl
          simp only [Act.put, List.getElem_toArray, List.getElem_cons_zero, List.getElem_cons_succ, List.setIfInBounds_toArray, List.set_cons_zero, List.set_cons_succ]
          refine wpAnyH_take (i := 17) (v := ?_) rfl (by kernel_rfl) (by kernel_rfl) (by kernel_rfl) (fun _ _ _ h => h) (Or.inl ⟨by rfl, ?_⟩) (by assumption) ?_
          rotate_left
          · intro w hSw
            go_simp
            try with_reducible rfl
          simp only [Act.put, List.getElem_toArray, List.getElem_cons_zero, List.getElem_cons_succ, List.setIfInBounds_toArray, List.set_cons_zero, List.set_cons_succ]
          refine wpAnyH_take (i := 18) (v := ?_) rfl (by kernel_rfl) (by kernel_rfl) (by kernel_rfl) (fun _ _ _ h => h) (Or.inl ⟨by rfl, ?_⟩) (by assumption) ?_
          rotate_left
          · intro w hSw
            go_simp
            try with_reducible rfl
          simp only [Act.put, List.getElem_toArray, List.getElem_cons_zero, List.getElem_cons_succ, List.setIfInBounds_toArray, List.set_cons_zero, List.set_cons_succ]
          refine wpAnyH_take (i := 19) (v := ?_) rfl (by kernel_rfl) (by kernel_rfl) (by kernel_rfl) (fun _ _ _ h => h) (Or.inl ⟨by rfl, ?_⟩) (by assumption) ?_
          rotate_left
          · intro w hSw
            go_simp
            try with_reducible rfl
          simp only [Act.put, List.getElem_toArray, List.getElem_cons_zero, List.getElem_cons_succ, List.setIfInBounds_toArray, List.set_cons_zero, List.set_cons_succ]
          refine wpAnyH_take (i := 20) (v := ?_) rfl (by kernel_rfl) (by kernel_rfl) (by kernel_rfl) (fun _ _ _ h => h) (Or.inl ⟨by rfl, ?_⟩) (by assumption) ?_
          rotate_left
          · intro w hSw
            go_simp
            try with_reducible rfl
          simp only [Act.put, List.getElem_toArray, List.getElem_cons_zero, List.getElem_cons_succ, List.setIfInBounds_toArray, List.set_cons_zero, List.set_cons_succ]
          refine wpAnyH_take (i := 21) (v := ?_) rfl (by kernel_rfl) (by kernel_rfl) (by kernel_rfl) (fun _ _ _ h => h) (Or.inl ⟨by rfl, ?_⟩) (by assumption) ?_
          rotate_left
          · intro w hSw
            go_simp
            try with_reducible rfl
          simp only [Act.put, List.getElem_toArray, List.getElem_cons_zero, List.getElem_cons_succ, List.setIfInBounds_toArray, List.set_cons_zero, List.set_cons_succ]
          refine wpAnyH_take (i := 22) (v := ?_) rfl (by kernel_rfl) (by kernel_rfl) (by kernel_rfl) (fun _ _ _ h => h) (Or.inl ⟨by rfl, ?_⟩) (by assumption) ?_
          rotate_left
          · intro w hSw
            go_simp
            try with_reducible rfl
          simp only [Act.put, List.getElem_toArray, List.getElem_cons_zero, List.getElem_cons_succ, List.setIfInBounds_toArray, List.set_cons_zero, List.set_cons_succ]
          refine wpAnyH_take (i := 23) (v := ?_) rfl (by kernel_rfl) (by kernel_rfl) (by kernel_rfl) (fun _ _ _ h => h) (Or.inl ⟨by rfl, ?_⟩) (by assumption) ?_
          rotate_left
          · intro w hSw
            go_simp
            try with_reducible rfl
          simp only [Act.put, List.getElem_toArray, List.getElem_cons_zero, List.getElem_cons_succ, List.setIfInBounds_toArray, List.set_cons_zero, List.set_cons_succ]
          refine wpAnyH_done (by kernel_rfl) ?_ _
          clear hS hVQ
          have HBD := aside (HB.out.drew)
          have HP2 := aside (show ∀ k y, k < j + 1 → L[k]? = some y → ¬ wrOf y = wrOf e from fun k y hk hy => by
            by_cases h9 : k = j
            · rw [h9, HXJ.out] at hy
              injection hy with hy
              rw [← hy]
              intro h8
              unfold wrOf at h8
              injection h8 with _ h8; injection h8 with h8 h7; exact absurd ⟨h8, h7⟩ HVV.out
            · exact HP.out k y (by omega) hy)
          clear SX hHeld
          go_wp2
          go_roundw
          case rel => exact ⟨j + 1, by first | rfl | go_num, by omega, HP2.out, by first | exact HBD.out | exact HB.out⟩
          case measure => simp [intOf] <;> omega
      · skip
        have hS : (x.k.toList == e.k.toList) = false := by
          cases hc : (x.k.toList == e.k.toList) with
          | false => rfl
          | true => exact absurd (toList_inj (beq_iff_eq.1 hc)) hkk
        have HKK := aside hkk
        clear hkk
        go_wp2_with fail
        refine wp_region_held_drew (S := fun W => W.cell? ⟨q, 0, none⟩ = some (.slice (some ⟨g, 0, none⟩) nL cv) ∧ (W.cell? ⟨b, 0, none⟩ = some (.string e.k) ∧ W.cell? ⟨b, 1, none⟩ = some (.int .i64 e.c) ∧ W.cell? ⟨b, 2, none⟩ = some (.int .i64 e.n) ∧ W.cell? ⟨b, 3, none⟩ = some (.string e.v) ∧ W.cell? ⟨b, 4, none⟩ = some (.bool e.d)) ∧ W.cell? ⟨g, j * 5, none⟩ = some (.string x.k) ∧ W.cell? ⟨g, j * 5 + 1, none⟩ = some (.int .i64 x.c) ∧ W.cell? ⟨g, j * 5 + 2, none⟩ = some (.int .i64 x.n) ∧ W.cell? ⟨g, j * 5 + 3, none⟩ = some (.string x.v) ∧ W.cell? ⟨g, j * 5 + 4, none⟩ = some (.bool x.d)) (by kernel_rfl) (SX.out _ (Below.refl _ wr).drew) (fun hHeld => ?_)
        refine wpAnyH_take (i := 0) (v := ?_) rfl (by kernel_rfl) (by kernel_rfl) (by kernel_rfl) (fun _ _ _ h => h) (Or.inl ⟨by rfl, ?_⟩) (by assumption) ?_
        rotate_left
        · intro w hSw
          go_simp
          try with_reducible rfl
        simp only [Act.put, List.getElem_toArray, List.getElem_cons_zero, List.setIfInBounds_toArray, List.set_cons_zero, List.set_cons_succ]
        refine wpAnyH_take (i := 1) (v := ?_) rfl (by kernel_rfl) (by kernel_rfl) (by kernel_rfl) (fun _ _ _ h => h) (Or.inl ⟨by rfl, ?_⟩) (by assumption) ?_
        rotate_left
        · intro w hSw
          go_simp
          try with_reducible rfl
        simp only [Act.put, List.getElem_toArray, List.getElem_cons_zero, List.getElem_cons_succ, List.setIfInBounds_toArray, List.set_cons_zero, List.set_cons_succ]
        refine wpAnyH_take (i := 2) (v := ?_) rfl (by kernel_rfl) (by kernel_rfl) (by kernel_rfl) (fun _ _ _ h => h) (Or.inl ⟨by rfl, ?_⟩) (by assumption) ?_
        rotate_left
        · intro w hSw
          go_simp
          try with_reducible rfl
        simp only [Act.put, List.getElem_toArray, List.getElem_cons_zero, List.getElem_cons_succ, List.setIfInBounds_toArray, List.set_cons_zero, List.set_cons_succ]
        refine wpAnyH_take (i := 3) (v := ?_) rfl (by kernel_rfl) (by kernel_rfl) (by kernel_rfl) (fun _ _ _ h => h) (Or.inl ⟨by rfl, ?_⟩) (by assumption) ?_
        rotate_left
        · intro w hSw
          go_simp
          try with_reducible rfl
        simp only [Act.put, List.getElem_toArray, List.getElem_cons_zero, List.getElem_cons_succ, List.setIfInBounds_toArray, List.set_cons_zero, List.set_cons_succ]
        refine wpAnyH_take (i := 4) (v := ?_) rfl (by kernel_rfl) (by kernel_rfl) (by kernel_rfl) (fun _ _ _ h => h) (Or.inl ⟨by rfl, ?_⟩) (by assumption) ?_
        rotate_left
        · intro w hSw
          go_simp
          try with_reducible rfl
        simp only [Act.put, List.getElem_toArray, List.getElem_cons_zero, List.getElem_cons_succ, List.setIfInBounds_toArray, List.set_cons_zero, List.set_cons_succ]
        refine wpAnyH_take (i := 5) (v := ?_) rfl (by kernel_rfl) (by kernel_rfl) (by kernel_rfl) (fun _ _ _ h => h) (Or.inl ⟨by rfl, ?_⟩) (by assumption) ?_
        rotate_left
        · intro w hSw
          go_simp
          try with_reducible rfl
        simp only [Act.put, List.getElem_toArray, List.getElem_cons_zero, List.getElem_cons_succ, List.setIfInBounds_toArray, List.set_cons_zero, List.set_cons_succ]
        refine wpAnyH_take (i := 6) (v := ?_) rfl (by kernel_rfl) (by kernel_rfl) (by kernel_rfl) (fun _ _ _ h => h) (Or.inl ⟨by rfl, ?_⟩) (by assumption) ?_
        rotate_left
        · intro w hSw
          go_simp
          try with_reducible rfl
        simp only [Act.put, List.getElem_toArray, List.getElem_cons_zero, List.getElem_cons_succ, List.setIfInBounds_toArray, List.set_cons_zero, List.set_cons_succ]
        refine wpAnyH_take (i := 7) (v := ?_) rfl (by kernel_rfl) (by kernel_rfl) (by kernel_rfl) (fun _ _ _ h => h) (Or.inl ⟨by rfl, ?_⟩) (by assumption) ?_
        rotate_left
        · intro w hSw
          go_simp
          try with_reducible rfl
        simp only [Act.put, List.getElem_toArray, List.getElem_cons_zero, List.getElem_cons_succ, List.setIfInBounds_toArray, List.set_cons_zero, List.set_cons_succ]
        refine wpAnyH_take (i := 8) (v := ?_) rfl (by kernel_rfl) (by kernel_rfl) (by kernel_rfl) (fun _ _ _ h => h) (Or.inl ⟨by rfl, ?_⟩) (by assumption) ?_
        rotate_left
        · intro w hSw
          go_simp
          try with_reducible rfl
        simp only [Act.put, List.getElem_toArray, List.getElem_cons_zero, List.getElem_cons_succ, List.setIfInBounds_toArray, List.set_cons_zero, List.set_cons_succ]
        refine wpAnyH_take (i := 9) (v := ?_) rfl (by kernel_rfl) (by kernel_rfl) (by kernel_rfl) (fun _ _ _ h => h) (Or.inl ⟨by rfl, ?_⟩) (by assumption) ?_
        rotate_left
        · intro w hSw
          go_simp
          try with_reducible rfl
        simp only [Act.put, List.getElem_toArray, List.getElem_cons_zero, List.getElem_cons_succ, List.setIfInBounds_toArray, List.set_cons_zero, List.set_cons_succ]
        refine wpAnyH_take (i := 10) (v := ?_) rfl (by kernel_rfl) (by kernel_rfl) (by kernel_rfl) (fun _ _ _ h => h) (Or.inl ⟨by rfl, ?_⟩) (by assumption) ?_
        rotate_left
        · intro w hSw
          go_simp
          try with_reducible rfl
        simp only [Act.put, List.getElem_toArray, List.getElem_cons_zero, List.getElem_cons_succ, List.setIfInBounds_toArray, List.set_cons_zero, List.set_cons_succ]
        refine wpAnyH_take (i := 11) (v := ?_) rfl (by kernel_rfl) (by kernel_rfl) (by kernel_rfl) (fun _ _ _ h => h) (Or.inl ⟨by rfl, ?_⟩) (by assumption) ?_
        rotate_left
        · intro w hSw
          go_simp
          try with_reducible rfl
        simp only [Act.put, List.getElem_toArray, List.getElem_cons_zero, List.getElem_cons_succ, List.setIfInBounds_toArray, List.set_cons_zero, List.set_cons_succ]
        refine wpAnyH_take (i := 12) (v := undef) rfl (by kernel_rfl) (by kernel_rfl) (by kernel_rfl) (fun _ _ _ h => h) (Or.inr ⟨by rfl, rfl⟩) (by assumption) ?_
        simp only [Act.put, List.getElem_toArray, List.getElem_cons_zero, List.getElem_cons_succ, List.setIfInBounds_toArray, List.set_cons_zero, List.set_cons_succ]
        refine wpAnyH_take (i := 13) (v := undef) rfl (by kernel_rfl) (by kernel_rfl) (by kernel_rfl) (fun _ _ _ h => h) (Or.inr ⟨by rfl, rfl⟩) (by assumption) ?_
        simp only [Act.put, List.getElem_toArray, List.getElem_cons_zero, List.getElem_cons_succ, List.setIfInBounds_toArray, List.set_cons_zero, List.set_cons_succ]
        refine wpAnyH_take (i := 14) (v := undef) rfl (by kernel_rfl) (by kernel_rfl) (by kernel_rfl) (fun _ _ _ h => h) (Or.inr ⟨by rfl, rfl⟩) (by assumption) ?_
        simp only [Act.put, List.getElem_toArray, List.getElem_cons_zero, List.getElem_cons_succ, List.setIfInBounds_toArray, List.set_cons_zero, List.set_cons_succ]
        refine wpAnyH_take (i := 15) (v := undef) rfl (by kernel_rfl) (by kernel_rfl) (by kernel_rfl) (fun _ _ _ h => h) (Or.inr ⟨by rfl, rfl⟩) (by assumption) ?_
        simp only [Act.put, List.getElem_toArray, List.getElem_cons_zero, List.getElem_cons_succ, List.setIfInBounds_toArray, List.set_cons_zero, List.set_cons_succ]
        refine wpAnyH_take (i := 16) (v := undef) rfl (by kernel_rfl) (by kernel_rfl) (by kernel_rfl) (fun _ _ _ h => h) (Or.inr ⟨by rfl, rfl⟩) (by assumption) ?_
        simp only [Act.put, List.getElem_toArray, List.getElem_cons_zero, List.getElem_cons_succ, List.setIfInBounds_toArray, List.set_cons_zero, List.set_cons_succ]
        refine wpAnyH_take (i := 17) (v := undef) rfl (by kernel_rfl) (by kernel_rfl) (by kernel_rfl) (fun _ _ _ h => h) (Or.inr ⟨by rfl, rfl⟩) (by assumption) ?_
        simp only [Act.put, List.getElem_toArray, List.getElem_cons_zero, List.getElem_cons_succ, List.setIfInBounds_toArray, List.set_cons_zero, List.set_cons_succ]
        refine wpAnyH_take (i := 18) (v := undef) rfl (by kernel_rfl) (by kernel_rfl) (by kernel_rfl) (fun _ _ _ h => h) (Or.inr ⟨by rfl, rfl⟩) (by assumption) ?_
        simp only [Act.put, List.getElem_toArray, List.getElem_cons_zero, List.getElem_cons_succ, List.setIfInBounds_toArray, List.set_cons_zero, List.set_cons_succ]
        refine wpAnyH_take (i := 19) (v := undef) rfl (by kernel_rfl) (by kernel_rfl) (by kernel_rfl) (fun _ _ _ h => h) (Or.inr ⟨by rfl, rfl⟩) (by assumption) ?_
        simp only [Act.put, List.getElem_toArray, List.getElem_cons_zero, List.getElem_cons_succ, List.setIfInBounds_toArray, List.set_cons_zero, List.set_cons_succ]
        refine wpAnyH_take (i := 20) (v := undef) rfl (by kernel_rfl) (by kernel_rfl) (by kernel_rfl) (fun _ _ _ h => h) (Or.inr ⟨by rfl, rfl⟩) (by assumption) ?_
        simp only [Act.put, List.getElem_toArray, List.getElem_cons_zero, List.getElem_cons_succ, List.setIfInBounds_toArray, List.set_cons_zero, List.set_cons_succ]
        refine wpAnyH_take (i := 21) (v := undef) rfl (by kernel_rfl) (by kernel_rfl) (by kernel_rfl) (fun _ _ _ h => h) (Or.inr ⟨by rfl, rfl⟩) (by assumption) ?_
        simp only [Act.put, List.getElem_toArray, List.getElem_cons_zero, List.getElem_cons_succ, List.setIfInBounds_toArray, List.set_cons_zero, List.set_cons_succ]
        refine wpAnyH_take (i := 22) (v := undef) rfl (by kernel_rfl) (by kernel_rfl) (by kernel_rfl) (fun _ _ _ h => h) (Or.inr ⟨by rfl, rfl⟩) (by assumption) ?_
        simp only [Act.put, List.getElem_toArray, List.getElem_cons_zero, List.getElem_cons_succ, List.setIfInBounds_toArray, List.set_cons_zero, List.set_cons_succ]
        refine wpAnyH_take (i := 23) (v := ?_) rfl (by kernel_rfl) (by kernel_rfl) (by kernel_rfl) (fun _ _ _ h => h) (Or.inl ⟨by rfl, ?_⟩) (by assumption) ?_
        rotate_left
        · intro w hSw
          go_simp
          try with_reducible rfl
        simp only [Act.put, List.getElem_toArray, List.getElem_cons_zero, List.getElem_cons_succ, List.setIfInBounds_toArray, List.set_cons_zero, List.set_cons_succ]
        refine wpAnyH_done (by kernel_rfl) ?_ _
        clear hS
        have HBD := aside (HB.out.drew)
        have HP2 := aside (show ∀ k y, k < j + 1 → L[k]? = some y → ¬ wrOf y = wrOf e from fun k y hk hy => by
          by_cases h9 : k = j
          · rw [h9, HXJ.out] at hy
            injection hy with hy
            rw [← hy]
            intro h8
            unfold wrOf at h8
            injection h8 with h8 _; exact absurd h8 HKK.out
          · exact HP.out k y (by omega) hy)
        clear SX hHeld
        go_wp2
        go_roundw
        case rel => exact ⟨j + 1, by first | rfl | go_num, by omega, HP2.out, by first | exact HBD.out | exact HB.out⟩
        case measure => simp [intOf] <;> omega
    · skip
      have HNO := aside (show lookW L (wrOf e) = none from HW0.out (fun y hy => by
        obtain ⟨k, hk, hk2⟩ := List.getElem_of_mem hy
        have h3 := HP.out k y (by have := HNL.out; omega) (by rw [List.getElem?_eq_getElem hk, hk2])
        exact h3))
      have SX := aside (fun (W : World) (kk : Keeps (fun k => (Value.slice av nL cv).ownBlock = some k) wr W) => (show W.cell? ⟨b, 0, none⟩ = some (.string e.k) ∧ W.cell? ⟨b, 1, none⟩ = some (.int .i64 e.c) ∧ W.cell? ⟨b, 2, none⟩ = some (.int .i64 e.n) ∧ W.cell? ⟨b, 3, none⟩ = some (.string e.v) ∧ W.cell? ⟨b, 4, none⟩ = some (.bool e.d) from by
        obtain ⟨⟨y0, y1, y2, y3, y4⟩, -⟩ := box5 (blk_keep (blk_on KQ.out HB.out) kk (fun h9 => NB.out (by show _; exact h9)))
        exact ⟨y0, y1, y2, y3, y4⟩))
      go_wp2_with fail
      refine wp_region_held_drew (S := fun W => (W.cell? ⟨b, 0, none⟩ = some (.string e.k) ∧ W.cell? ⟨b, 1, none⟩ = some (.int .i64 e.c) ∧ W.cell? ⟨b, 2, none⟩ = some (.int .i64 e.n) ∧ W.cell? ⟨b, 3, none⟩ = some (.string e.v) ∧ W.cell? ⟨b, 4, none⟩ = some (.bool e.d))) (by kernel_rfl) (SX.out _ (Keeps.of_below (Below.refl _ wr).drew _)) (fun hHeld => ?_)
      refine wpAnyH_take (i := 0) (v := ?_) rfl (by kernel_rfl) (by kernel_rfl) (by kernel_rfl) (fun _ _ _ h => h) (Or.inl ⟨by rfl, ?_⟩) (by assumption) ?_
      rotate_left
      · intro w hSw
        go_simp
        try with_reducible rfl
      simp only [Act.put, List.getElem_toArray, List.getElem_cons_zero, List.setIfInBounds_toArray, List.set_cons_zero, List.set_cons_succ]
      refine wpAnyH_take (i := 1) (v := ?_) rfl (by kernel_rfl) (by kernel_rfl) (by kernel_rfl) (fun _ _ _ h => h) (Or.inl ⟨by rfl, ?_⟩) (by assumption) ?_
      rotate_left
      · intro w hSw
        go_simp
        try with_reducible rfl
      simp only [Act.put, List.getElem_toArray, List.getElem_cons_zero, List.getElem_cons_succ, List.setIfInBounds_toArray, List.set_cons_zero, List.set_cons_succ]
      refine wpAnyH_take (i := 2) (v := ?_) rfl (by kernel_rfl) (by kernel_rfl) (by kernel_rfl) (fun _ _ _ h => h) (Or.inl ⟨by rfl, ?_⟩) (by assumption) ?_
      rotate_left
      · intro w hSw
        go_simp
        try with_reducible rfl
      simp only [Act.put, List.getElem_toArray, List.getElem_cons_zero, List.getElem_cons_succ, List.setIfInBounds_toArray, List.set_cons_zero, List.set_cons_succ]
      refine wpAnyH_take (i := 3) (v := ?_) rfl (by kernel_rfl) (by kernel_rfl) (by kernel_rfl) (fun _ _ _ h => h) (Or.inl ⟨by rfl, ?_⟩) (by assumption) ?_
      rotate_left
      · intro w hSw
        go_simp
        try with_reducible rfl
      simp only [Act.put, List.getElem_toArray, List.getElem_cons_zero, List.getElem_cons_succ, List.setIfInBounds_toArray, List.set_cons_zero, List.set_cons_succ]
      refine wpAnyH_take (i := 5) (v := ?_) rfl (by kernel_rfl) (by kernel_rfl) (by kernel_rfl) (fun _ _ _ h => h) (Or.inl ⟨by rfl, ?_⟩) (by assumption) ?_
      rotate_left
      · intro w hSw
        go_simp
        try with_reducible rfl
      simp only [Act.put, List.getElem_toArray, List.getElem_cons_zero, List.getElem_cons_succ, List.setIfInBounds_toArray, List.set_cons_zero, List.set_cons_succ]
      have hb0 : Below wr.heap.size wr wr.drew := (Below.refl _ wr).drew
      have cX : wr.drew.cell? ⟨q, 0, none⟩ = some (.slice av nL cv) := cell_in c0 hb0
      obtain ⟨X, hX⟩ : ∃ X, wr.drew = X := ⟨_, rfl⟩
      rw [hX] at hb0 hHeld cX ⊢
      clear hX c0
      refine wpAnyH_ready (rs := [4, 6]) (by kernel_rfl) (by simp) ?_
      refine AllReadyH.cons rfl (fun K hK => ?_) (AllReadyH.cons rfl (fun K hK => ?_) AllReadyH.nil)
      · skip
        go_simp
        refine hK.out _ _ hHeld (fun hHeld => ?_)
        clear hK K
        refine wpAnyH_ready (rs := [6]) (by kernel_rfl) (by simp) ?_
        refine AllReadyH.cons rfl (fun K hK => ?_) AllReadyH.nil
        go_simp
        have hbN := bthen hb0 (bnew X (.cells #[.string e.k, .int .i64 e.c, .int .i64 e.n, .string e.v, .bool e.d] 31))
        have KN := aside (heap_alloc_new X (.cells #[.string e.k, .int .i64 e.c, .int .i64 e.n, .string e.v, .bool e.d] 31))
        refine hK.out _ _ (SX.out _ (Keeps.of_below hbN _)) (fun hHeld => ?_)
        clear hK K
        obtain ⟨nb, hnb⟩ : ∃ nb, X.heap.size = nb := ⟨_, rfl⟩
        rw [hnb] at KN ⊢
        obtain ⟨Y, hY⟩ : ∃ Y, X.alloc (.cells #[.string e.k, .int .i64 e.c, .int .i64 e.n, .string e.v, .bool e.d] 31) = Y := ⟨_, rfl⟩
        rw [hY] at KN hbN hHeld ⊢
        clear hnb hY hb0
        have RY := aside (HR.out.on (bthen HB.out hbN))
        clear cX
        refine wpAnyH_ready (rs := [7]) (by kernel_rfl) (by simp) ?_
        refine AllReadyH.cons rfl (fun K hK => ?_) AllReadyH.nil
        rw [if_pos (by rfl)]
        refine op_append_ent_at _ _ rfl B nL (.slice av nL cv) L (by rfl) (by have h9 := RY.out.all; rw [HNL.out] at h9; exact h9) nb 1 e (by rfl) KN.out (by have := HSM.out; have := HNL.out; omega) (by have h9 := RY.out.qB; have := lt_of_blk RY.out.bx; omega) ?_
        intro g3 c3 Z own3 gr3 alt3
        have kz := (Keeps.of_below hbN (fun k => (Value.slice av nL cv).ownBlock = some k)).grown gr3 (fun k h9 _ => h9)
        have hZ := SX.out _ kz
        have BX := aside (blk_keep RY.out.bx ((Keeps.refl (fun k => (Value.slice av nL cv).ownBlock = some k) Y).grown gr3 (fun k h9 _ => h9)) RY.out.nq)
        have GZ := aside (RY.out.grow (by rw [HNL.out]; exact own3) gr3 alt3 HCK.out)
        have KZ := aside (((Keeps.of_below (bthen (bthen BQ.out HB.out) hbN) (fun k => k = q ∨ (Value.slice av nL cv).ownBlock = some k)).grown gr3 (fun k h9 _ => .inr h9)).setCell (p := ⟨q, 0, none⟩) (fun _ => .inl rfl) (.slice (some ⟨g3, 0, none⟩) (nL + 1) c3))
        have AZ := aside (show (Value.slice (some ⟨g3, 0, none⟩) (nL + 1) c3).ownBlock = (Value.slice av nL cv).ownBlock ∨ ∃ g, (Value.slice (some ⟨g3, 0, none⟩) (nL + 1) c3).ownBlock = some g ∧ w.heap.size ≤ g from by
          rcases alt3 with h9 | h9
          · exact .inl (by rw [h9]; rfl)
          · exact .inr ⟨g3, rfl, by rw [h9]; exact (bthen (bthen BQ.out HB.out) hbN).size⟩)
        refine hK.out _ _ hZ (fun hHeld => ?_)
        clear hK K own3 gr3 alt3 hZ
        have kq := SX.out _ (kz)
        simp only [Act.put, List.getElem_toArray, List.getElem_cons_zero, List.getElem_cons_succ, List.setIfInBounds_toArray, List.set_cons_zero, List.set_cons_succ]
        refine wpAnyH_take (i := 8) (v := ?_) rfl (by kernel_rfl) (by kernel_rfl) (by kernel_rfl) (fun _ _ _ h => h) (Or.inl ⟨by rfl, ?_⟩) (by assumption) ?_
        rotate_left
        · intro w hSw
          go_simp
          try with_reducible rfl
        simp only [Act.put, List.getElem_toArray, List.getElem_cons_zero, List.getElem_cons_succ, List.setIfInBounds_toArray, List.set_cons_zero, List.set_cons_succ]
        refine wpAnyH_take (i := 9) (v := ?_) rfl (by kernel_rfl) (by kernel_rfl) (by kernel_rfl) (fun _ _ _ h => h) (Or.inl ⟨by rfl, ?_⟩) (by assumption) ?_
        rotate_left
        · intro w hSw
          go_simp
          try with_reducible rfl
        simp only [Act.put, List.getElem_toArray, List.getElem_cons_zero, List.getElem_cons_succ, List.setIfInBounds_toArray, List.set_cons_zero, List.set_cons_succ]
        have z0 : Z.cell? ⟨q, 0, none⟩ = some (.slice av nL cv) := by rw [cell_of_row _ _ 0 _ _ _ BX.out]; rfl
        have z1 := frozen_of_row _ _ 0 _ _ BX.out
        have SB := aside (show ((Z.setCell ⟨q, 0, none⟩ (.slice (some ⟨g3, 0, none⟩) (nL + 1) c3)).cell? ⟨b, 0, none⟩ = some (.string e.k) ∧ (Z.setCell ⟨q, 0, none⟩ (.slice (some ⟨g3, 0, none⟩) (nL + 1) c3)).cell? ⟨b, 1, none⟩ = some (.int .i64 e.c) ∧ (Z.setCell ⟨q, 0, none⟩ (.slice (some ⟨g3, 0, none⟩) (nL + 1) c3)).cell? ⟨b, 2, none⟩ = some (.int .i64 e.n) ∧ (Z.setCell ⟨q, 0, none⟩ (.slice (some ⟨g3, 0, none⟩) (nL + 1) c3)).cell? ⟨b, 3, none⟩ = some (.string e.v) ∧ (Z.setCell ⟨q, 0, none⟩ (.slice (some ⟨g3, 0, none⟩) (nL + 1) c3)).cell? ⟨b, 4, none⟩ = some (.bool e.d)) from by
          have h8 := KQ.out
          obtain ⟨⟨y0, y1, y2, y3, y4⟩, -⟩ := box5 (blk_keep (blk_on KQ.out HB.out) ((kz.mono (S' := fun k => k = q ∨ (Value.slice av nL cv).ownBlock = some k) (fun k _ h9 => .inr h9)).setCell (p := ⟨q, 0, none⟩) (fun _ => .inl rfl) (.slice (some ⟨g3, 0, none⟩) (nL + 1) c3)) (fun h9 => by
            rcases h9 with h9 | h9
            · have h7 := (HR.out).bx
              rw [← h9, h8] at h7
              injection h7 with h7
              injection h7 with _ h7
              exact absurd h7 (by decide)
            · exact NB.out h9))
          exact ⟨y0, y1, y2, y3, y4⟩)
        refine wpAnyH_ready (rs := [10]) (by kernel_rfl) (by simp) ?_
        refine AllReadyH.cons rfl (fun K hK => ?_) AllReadyH.nil
        go_simp
        refine hK.out _ _ SB.out (fun hHeld => ?_)
        clear hK K hHeld SX SB kz z0 z1 kq hbN
        refine wpAnyH_done (by kernel_rfl) ?_ _
        have FQ := aside (show wroQ L e = 0 from by unfold wroQ; rw [if_pos HCK.out, HNO.out]; simp)
        have FL := aside (show wroL L e = L ++ [e] from by unfold wroL; rw [if_pos HCK.out, HNO.out]; simp)
        go_wp2
        go_ret
        exact ⟨by rw [FQ.out]; rfl, _, by rw [FL.out]; have h9 := GZ.out; rw [HNL.out] at h9; exact h9, KZ.out, AZ.out⟩
      · skip
        go_simp
        have hbN := bthen hb0 (bnew X (.cells #[.string e.k, .int .i64 e.c, .int .i64 e.n, .string e.v, .bool e.d] 31))
        have KN := aside (heap_alloc_new X (.cells #[.string e.k, .int .i64 e.c, .int .i64 e.n, .string e.v, .bool e.d] 31))
        refine hK.out _ _ (SX.out _ (Keeps.of_below hbN _)) (fun hHeld => ?_)
        clear hK K
        obtain ⟨nb, hnb⟩ : ∃ nb, X.heap.size = nb := ⟨_, rfl⟩
        rw [hnb] at KN ⊢
        obtain ⟨Y, hY⟩ : ∃ Y, X.alloc (.cells #[.string e.k, .int .i64 e.c, .int .i64 e.n, .string e.v, .bool e.d] 31) = Y := ⟨_, rfl⟩
        rw [hY] at KN hbN hHeld ⊢
        clear hnb hY hb0
        have RY := aside (HR.out.on (bthen HB.out hbN))
        have cY : Y.cell? ⟨q, 0, none⟩ = some (.slice av nL cv) := by rw [cell_of_row _ _ 0 _ _ _ RY.out.bx]; rfl
        clear cX
        refine wpAnyH_ready (rs := [4]) (by kernel_rfl) (by simp) ?_
        refine AllReadyH.cons rfl (fun K hK => ?_) AllReadyH.nil
        go_simp
        refine hK.out _ _ hHeld (fun hHeld => ?_)
        clear hK K
        clear cY
        refine wpAnyH_ready (rs := [7]) (by kernel_rfl) (by simp) ?_
        refine AllReadyH.cons rfl (fun K hK => ?_) AllReadyH.nil
        rw [if_pos (by rfl)]
        refine op_append_ent_at _ _ rfl B nL (.slice av nL cv) L (by rfl) (by have h9 := RY.out.all; rw [HNL.out] at h9; exact h9) nb 1 e (by rfl) KN.out (by have := HSM.out; have := HNL.out; omega) (by have h9 := RY.out.qB; have := lt_of_blk RY.out.bx; omega) ?_
        intro g3 c3 Z own3 gr3 alt3
        have kz := (Keeps.of_below hbN (fun k => (Value.slice av nL cv).ownBlock = some k)).grown gr3 (fun k h9 _ => h9)
        have hZ := SX.out _ kz
        have BX := aside (blk_keep RY.out.bx ((Keeps.refl (fun k => (Value.slice av nL cv).ownBlock = some k) Y).grown gr3 (fun k h9 _ => h9)) RY.out.nq)
        have GZ := aside (RY.out.grow (by rw [HNL.out]; exact own3) gr3 alt3 HCK.out)
        have KZ := aside (((Keeps.of_below (bthen (bthen BQ.out HB.out) hbN) (fun k => k = q ∨ (Value.slice av nL cv).ownBlock = some k)).grown gr3 (fun k h9 _ => .inr h9)).setCell (p := ⟨q, 0, none⟩) (fun _ => .inl rfl) (.slice (some ⟨g3, 0, none⟩) (nL + 1) c3))
        have AZ := aside (show (Value.slice (some ⟨g3, 0, none⟩) (nL + 1) c3).ownBlock = (Value.slice av nL cv).ownBlock ∨ ∃ g, (Value.slice (some ⟨g3, 0, none⟩) (nL + 1) c3).ownBlock = some g ∧ w.heap.size ≤ g from by
          rcases alt3 with h9 | h9
          · exact .inl (by rw [h9]; rfl)
          · exact .inr ⟨g3, rfl, by rw [h9]; exact (bthen (bthen BQ.out HB.out) hbN).size⟩)
        refine hK.out _ _ hZ (fun hHeld => ?_)
        clear hK K own3 gr3 alt3 hZ
        have kq := SX.out _ (kz)
        simp only [Act.put, List.getElem_toArray, List.getElem_cons_zero, List.getElem_cons_succ, List.setIfInBounds_toArray, List.set_cons_zero, List.set_cons_succ]
        refine wpAnyH_take (i := 8) (v := ?_) rfl (by kernel_rfl) (by kernel_rfl) (by kernel_rfl) (fun _ _ _ h => h) (Or.inl ⟨by rfl, ?_⟩) (by assumption) ?_
        rotate_left
        · intro w hSw
          go_simp
          try with_reducible rfl
        simp only [Act.put, List.getElem_toArray, List.getElem_cons_zero, List.getElem_cons_succ, List.setIfInBounds_toArray, List.set_cons_zero, List.set_cons_succ]
        refine wpAnyH_take (i := 9) (v := ?_) rfl (by kernel_rfl) (by kernel_rfl) (by kernel_rfl) (fun _ _ _ h => h) (Or.inl ⟨by rfl, ?_⟩) (by assumption) ?_
        rotate_left
        · intro w hSw
          go_simp
          try with_reducible rfl
        simp only [Act.put, List.getElem_toArray, List.getElem_cons_zero, List.getElem_cons_succ, List.setIfInBounds_toArray, List.set_cons_zero, List.set_cons_succ]
        have z0 : Z.cell? ⟨q, 0, none⟩ = some (.slice av nL cv) := by rw [cell_of_row _ _ 0 _ _ _ BX.out]; rfl
        have z1 := frozen_of_row _ _ 0 _ _ BX.out
        have SB := aside (show ((Z.setCell ⟨q, 0, none⟩ (.slice (some ⟨g3, 0, none⟩) (nL + 1) c3)).cell? ⟨b, 0, none⟩ = some (.string e.k) ∧ (Z.setCell ⟨q, 0, none⟩ (.slice (some ⟨g3, 0, none⟩) (nL + 1) c3)).cell? ⟨b, 1, none⟩ = some (.int .i64 e.c) ∧ (Z.setCell ⟨q, 0, none⟩ (.slice (some ⟨g3, 0, none⟩) (nL + 1) c3)).cell? ⟨b, 2, none⟩ = some (.int .i64 e.n) ∧ (Z.setCell ⟨q, 0, none⟩ (.slice (some ⟨g3, 0, none⟩) (nL + 1) c3)).cell? ⟨b, 3, none⟩ = some (.string e.v) ∧ (Z.setCell ⟨q, 0, none⟩ (.slice (some ⟨g3, 0, none⟩) (nL + 1) c3)).cell? ⟨b, 4, none⟩ = some (.bool e.d)) from by
          have h8 := KQ.out
          obtain ⟨⟨y0, y1, y2, y3, y4⟩, -⟩ := box5 (blk_keep (blk_on KQ.out HB.out) ((kz.mono (S' := fun k => k = q ∨ (Value.slice av nL cv).ownBlock = some k) (fun k _ h9 => .inr h9)).setCell (p := ⟨q, 0, none⟩) (fun _ => .inl rfl) (.slice (some ⟨g3, 0, none⟩) (nL + 1) c3)) (fun h9 => by
            rcases h9 with h9 | h9
            · have h7 := (HR.out).bx
              rw [← h9, h8] at h7
              injection h7 with h7
              injection h7 with _ h7
              exact absurd h7 (by decide)
            · exact NB.out h9))
          exact ⟨y0, y1, y2, y3, y4⟩)
        refine wpAnyH_ready (rs := [10]) (by kernel_rfl) (by simp) ?_
        refine AllReadyH.cons rfl (fun K hK => ?_) AllReadyH.nil
        go_simp
        refine hK.out _ _ SB.out (fun hHeld => ?_)
        clear hK K hHeld SX SB kz z0 z1 kq hbN
        refine wpAnyH_done (by kernel_rfl) ?_ _
        have FQ := aside (show wroQ L e = 0 from by unfold wroQ; rw [if_pos HCK.out, HNO.out]; simp)
        have FL := aside (show wroL L e = L ++ [e] from by unfold wroL; rw [if_pos HCK.out, HNO.out]; simp)
        go_wp2
        go_ret
        exact ⟨by rw [FQ.out]; rfl, _, by rw [FL.out]; have h9 := GZ.out; rw [HNL.out] at h9; exact h9, KZ.out, AZ.out⟩

end Go.Proofs.Ytfkdhambbpkmpaa

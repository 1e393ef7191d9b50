/-
  Lists compared, of the ghost's laws.
-/
import Derived.Test.YtfkdhambbpkmpaaMgPairs
import Derived.Test.YtfkdhambbpkmpaaMgEq
namespace Go.Proofs.Ytfkdhambbpkmpaa
open Go.RowKit
set_option linter.unusedVariables false
set_option maxHeartbeats 3200000 in
set_option maxRecDepth 100000 in
theorem same19_yes (a : Option Addr) (la ca : Nat) (A : Nat → En) (b : Option Addr) (lb cb : Nat) (B : Nat → En) (w : World) (hA : EntsIn w a la ca A) (hB : EntsIn w b lb cb B) (h : firstE A la = firstE B lb) :
    Calls Try.prog 9 #[.slice a la ca, .slice b lb cb] w fun e w' => e = .returned (.bool true) ∧ Below w.heap.size w w' := by
  have hll : la = lb := by have := congrArg List.length h; rwa [firstE_len, firstE_len] at this
  subst hll
  have HEQ := aside (show ∀ i, i < la → A i = B i from fun i hi => by have h1 := firstE_get A hi; rw [h, firstE_get B hi] at h1; injection h1 with h1; exact h1.symm)
  have HA := aside hA
  have HBB := aside hB
  have hmx : (la : Int) ≤ 9223372036854775807 := by have h1 := hA.1; have h2 := hA.2.1; unfold maxLen at h2; omega
  clear hA hB h
  go_enter Try.func9, Try.ntmps9
  go_wp2
  go_loopw [5] (fun i wr => ∃ j : Nat, i = .int .i64 (j : Int) ∧ j ≤ la ∧ Below w.heap.size w wr) (fun i _ => la - (intOf i).toNat)
  case atStart => exact ⟨0, rfl, Nat.zero_le _, Below.refl _ _⟩
  case round =>
    obtain ⟨j, rfl, hj, hB⟩ := hrel
    have HB := aside hB
    clear hB
    by_cases hlt : (j : Int) < (la : Int)
    · have hj0 : (0 : Int) ≤ (j : Int) := by omega
      have eA := HA.out.keep HB.out
      have eB := HBB.out.keep HB.out
      rcases eA.2.2 with h0 | ⟨ba, oa, rfl, -, -⟩
      · omega
      rcases eB.2.2 with h0 | ⟨bb, ob, rfl, -, -⟩
      · omega
      obtain ⟨x, hx⟩ : ∃ x, A j = x := ⟨_, rfl⟩
      have hy : B j = x := (HEQ.out j (by omega)).symm.trans hx
      have F1 := aside (ents_five (eA.keep (Below.refl _ wr).drew) (by omega) hx)
      have F2 := aside (ents_five (eB.keep (Below.refl _ wr).drew) (by omega) hy)
      have hNE : ∀ w, (binOp .neq 31 (.agg #[.string x.k, .int .i64 x.c, .int .i64 x.n, .string x.v, .bool x.d]) (.agg #[.string x.k, .int .i64 x.c, .int .i64 x.n, .string x.v, .bool x.d])).run Try.prog w = .ok (.bool false) w := fun w => by rw [ent_ne, enEqB_same]; rfl
      clear eA eB hx hy
      go_wp2_with fail
      refine wp_region_held_drew (S := fun W => Below w.heap.size w W ∧ (W.cell? ⟨ba, oa + j * 5, none⟩ = some (.string x.k) ∧ W.cell? ⟨ba, oa + j * 5 + 1, none⟩ = some (.int .i64 x.c) ∧ W.cell? ⟨ba, oa + j * 5 + 2, none⟩ = some (.int .i64 x.n) ∧ W.cell? ⟨ba, oa + j * 5 + 3, none⟩ = some (.string x.v) ∧ W.cell? ⟨ba, oa + j * 5 + 4, none⟩ = some (.bool x.d)) ∧ W.cell? ⟨bb, ob + j * 5, none⟩ = some (.string x.k) ∧ W.cell? ⟨bb, ob + j * 5 + 1, none⟩ = some (.int .i64 x.c) ∧ W.cell? ⟨bb, ob + j * 5 + 2, none⟩ = some (.int .i64 x.n) ∧ W.cell? ⟨bb, ob + j * 5 + 3, none⟩ = some (.string x.v) ∧ W.cell? ⟨bb, ob + j * 5 + 4, none⟩ = some (.bool x.d)) (by kernel_rfl) ⟨HB.out.drew, F1.out, F2.out⟩ (fun hHeld => ?_)
      refine wpAnyH_take (i := 0) (v := ?_) rfl (by kernel_rfl) (by kernel_rfl) (by kernel_rfl) (fun _ _ _ h => h) (Or.inl ⟨by rfl, ?_⟩) (by assumption) ?_
      rotate_left
      · intro w hSw
        go_simp
        try with_reducible rfl
      simp only [Act.put, List.getElem_toArray, List.getElem_cons_zero, List.setIfInBounds_toArray, List.set_cons_zero, List.set_cons_succ]
      refine wpAnyH_take (i := 1) (v := ?_) rfl (by kernel_rfl) (by kernel_rfl) (by kernel_rfl) (fun _ _ _ h => h) (Or.inl ⟨by rfl, ?_⟩) (by assumption) ?_
      rotate_left
      · intro w hSw
        go_simp
        try with_reducible rfl
      simp only [Act.put, List.getElem_toArray, List.getElem_cons_zero, List.getElem_cons_succ, List.setIfInBounds_toArray, List.set_cons_zero, List.set_cons_succ]
      refine wpAnyH_take (i := 2) (v := ?_) rfl (by kernel_rfl) (by kernel_rfl) (by kernel_rfl) (fun _ _ _ h => h) (Or.inl ⟨by rfl, ?_⟩) (by assumption) ?_
      rotate_left
      · intro w hSw
        go_simp
        try with_reducible rfl
      simp only [Act.put, List.getElem_toArray, List.getElem_cons_zero, List.getElem_cons_succ, List.setIfInBounds_toArray, List.set_cons_zero, List.set_cons_succ]
      refine wpAnyH_take (i := 3) (v := ?_) rfl (by kernel_rfl) (by kernel_rfl) (by kernel_rfl) (fun _ _ _ h => h) (Or.inl ⟨by rfl, ?_⟩) (by assumption) ?_
      rotate_left
      · intro w hSw
        go_simp
        try with_reducible rfl
      simp only [Act.put, List.getElem_toArray, List.getElem_cons_zero, List.getElem_cons_succ, List.setIfInBounds_toArray, List.set_cons_zero, List.set_cons_succ]
      refine wpAnyH_take (i := 4) (v := ?_) rfl (by kernel_rfl) (by kernel_rfl) (by kernel_rfl) (fun _ _ _ h => h) (Or.inl ⟨by rfl, ?_⟩) (by assumption) ?_
      rotate_left
      · intro w hSw
        go_simp
        try with_reducible rfl
      simp only [Act.put, List.getElem_toArray, List.getElem_cons_zero, List.getElem_cons_succ, List.setIfInBounds_toArray, List.set_cons_zero, List.set_cons_succ]
      refine wpAnyH_take (i := 5) (v := ?_) rfl (by kernel_rfl) (by kernel_rfl) (by kernel_rfl) (fun _ _ _ h => h) (Or.inl ⟨by rfl, ?_⟩) (by assumption) ?_
      rotate_left
      · intro w hSw
        go_simp
        try with_reducible rfl
      simp only [Act.put, List.getElem_toArray, List.getElem_cons_zero, List.getElem_cons_succ, List.setIfInBounds_toArray, List.set_cons_zero, List.set_cons_succ]
      refine wpAnyH_take (i := 6) (v := ?_) rfl (by kernel_rfl) (by kernel_rfl) (by kernel_rfl) (fun _ _ _ h => h) (Or.inl ⟨by rfl, ?_⟩) (by assumption) ?_
      rotate_left
      · intro w hSw
        go_simp
        try with_reducible rfl
      simp only [Act.put, List.getElem_toArray, List.getElem_cons_zero, List.getElem_cons_succ, List.setIfInBounds_toArray, List.set_cons_zero, List.set_cons_succ]
      refine wpAnyH_take (i := 7) (v := ?_) rfl (by kernel_rfl) (by kernel_rfl) (by kernel_rfl) (fun _ _ _ h => h) (Or.inl ⟨by rfl, ?_⟩) (by assumption) ?_
      rotate_left
      · intro w hSw
        go_simp
        try with_reducible rfl
      simp only [Act.put, List.getElem_toArray, List.getElem_cons_zero, List.getElem_cons_succ, List.setIfInBounds_toArray, List.set_cons_zero, List.set_cons_succ]
      refine wpAnyH_take (i := 8) (v := .bool false) rfl (by kernel_rfl) (by kernel_rfl) (by kernel_rfl) (fun _ _ _ h => h) (Or.inl ⟨by rfl, ?_⟩) (by assumption) ?_
      · intro w hSw
        go_simp
      simp only [Act.put, List.getElem_toArray, List.getElem_cons_zero, List.getElem_cons_succ, List.setIfInBounds_toArray, List.set_cons_zero, List.set_cons_succ]
      refine wpAnyH_done (by kernel_rfl) ?_ _
      have HB2 := aside hHeld.1
      clear hHeld hNE F1 F2
      go_wp2
      go_roundw
      case rel => exact ⟨j + 1, by go_num, by omega, HB2.out⟩
      case measure => simp [intOf]; omega
    · have hjl : j = la := by omega
      subst hjl
      go_wp2
      go_ret
      exact ⟨rfl, HB.out⟩
end Go.Proofs.Ytfkdhambbpkmpaa

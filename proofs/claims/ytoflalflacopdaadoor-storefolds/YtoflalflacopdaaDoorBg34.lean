/-
  StoreFolds: the round of the loop over a part's entries.
-/
import Derived.Test.YtoflalflacopdaaDoorBg33
import Derived.LoopIn
namespace Go.Proofs.YtoflalflacopdaaDoor
open Go.RowKit Go.Shelf
set_option linter.unusedVariables false
attribute [local go_sem] Oper.semAt_some
set_option maxHeartbeats 12800000 in
set_option maxRecDepth 1000000 in
theorem sf_body {B : Code} (hB : ((Tryd.f3.body.map bodiesOf).getD []).getD 1 .skip = B) {l a0 : Nat} {w W5 X : World} {rb qb sb g tb : Nat} {r : Rg} {ck : Int} {Ls : List En} {kt ob smb atb : Nat} {Ft sm : Tl} {vp : Value} {np : Nat} {ps : List Value} {oa : Option Addr} {oc : Nat} {xs es : List En} {Ds : List Nat}
    (hL : SfL w rb qb sb g tb r ck Ls kt ob smb atb Ft sm a0 vp np ps oa oc xs Ds W5) (hm : MapL xs) (hxl : xs.length ≤ 256) (hpt : ∀ pre x, (pre ++ [x]) <+: es → xs[a0 + pre.length]? = some x) {pre : List En} {x : En} {a' : Act}
    (hI : (fun (pre : List En) (Y : World) => Y.heap[atb]? = some (.cells #[.int .i64 ((a0 + pre.length : Nat) : Int)] 3 (0, 0)) ∧ Keeps (fun x => x = atb) W5 Y) pre X) (hA : (fun (x : En) (a' : Act) (Y : World) => a'.defers = [] ∧ a'.tmps.size = 213 ∧ a'.tmps[6]? = some (.pointer (some ⟨qb, 0, none⟩)) ∧ a'.tmps[17]? = some (.pointer (some ⟨ob, 0, none⟩)) ∧ a'.tmps[20]? = some (.pointer (some ⟨atb, 0, none⟩)) ∧ ∃ eb : Nat, a'.tmps[27]? = some (.pointer (some ⟨eb, 0, none⟩)) ∧ Y.heap[eb]? = some (.cells #[.string x.k, .int .i64 x.c, .int .i64 x.n, .string x.v, .bool x.d] 33 (0, 0))) x a' X) :
    B.wpIn (Fence.wide.inRound l) (9 - 1 - 1) Tryd.prog (ownPostG W5.heap.size KpT (fun (pre : List En) (Y : World) => Y.heap[atb]? = some (.cells #[.int .i64 ((a0 + pre.length : Nat) : Int)] 3 (0, 0)) ∧ Keeps (fun x => x = atb) W5 Y) (fun (c : Code) (pre : List En) (_ : World) => c = .ret ∧ ¬ pre <+: es) (pre ++ [x]) X) a' X := by
  subst hB
  obtain ⟨hat, hkx⟩ := hI
  obtain ⟨hdf, hsz, h6, h17, h20, eb, h27, he⟩ := hA
  have LX := aside (hL.setAt hat hkx)
  have HMX := aside hm
  have HXL := aside hxl
  have HPT := aside hpt
  have HE := aside he
  have HKX := aside hkx
  obtain ⟨tm, df⟩ := a'
  obtain ⟨f, hf⟩ := lit213 tm hsz
  dsimp only at hdf h6 h17 h20 h27
  subst hf hdf
  rw [show f 6 = _ from Option.some.inj h6, show f 17 = _ from Option.some.inj h17, show f 20 = _ from Option.some.inj h20, show f 27 = _ from Option.some.inj h27]
  obtain ⟨k, hk9⟩ : ∃ k, a0 + pre.length = k := ⟨_, rfl⟩
  have HK := aside hk9
  rw [hk9] at LX
  clear h6 h17 h20 h27 hsz hL hm hxl hpt hat he hkx hk9
  conv => arg 4; whnf
  by_cases hk : k < xs.length
  · obtain ⟨y, hy⟩ : ∃ y, nthE xs k = y := ⟨_, rfl⟩
    have hxk : xs[k]? = some y := by rw [← hy]; exact nthE_get hk
    have eA := LX.out.ents (Y := X) HMX.out
    rcases eA.2.2 with h0 | ⟨ba, oo, rfl, -, -⟩
    · omega
    have S0 := aside (show (fun Y => Below X.heap.size X Y ∧ Y.cell? ⟨atb, 0, none⟩ = some (.int .i64 (k : Int)) ∧ Y.cell? ⟨ob, 0, none⟩ = some (.slice (some ⟨ba, oo, none⟩) xs.length oc) ∧ (Y.cell? ⟨eb, 0, none⟩ = some (.string x.k) ∧ Y.cell? ⟨eb, 1, none⟩ = some (.int .i64 x.c) ∧ Y.cell? ⟨eb, 2, none⟩ = some (.int .i64 x.n) ∧ Y.cell? ⟨eb, 3, none⟩ = some (.string x.v) ∧ Y.cell? ⟨eb, 4, none⟩ = some (.bool x.d)) ∧ (Y.cell? ⟨ba, oo + k * 5, none⟩ = some (.string y.k) ∧ Y.cell? ⟨ba, oo + k * 5 + 1, none⟩ = some (.int .i64 y.c) ∧ Y.cell? ⟨ba, oo + k * 5 + 2, none⟩ = some (.int .i64 y.n) ∧ Y.cell? ⟨ba, oo + k * 5 + 3, none⟩ = some (.string y.v) ∧ Y.cell? ⟨ba, oo + k * 5 + 4, none⟩ = some (.bool y.d))) X.drew from ⟨(Below.refl _ X).drew, cell_one (blk_on LX.out.ba (Below.refl _ X).drew), cell_one (blk_on LX.out.bo (Below.refl _ X).drew), (box5 (blk_on HE.out (Below.refl _ X).drew)).1, ents_five (eA.keep (Below.refl _ X).drew) hk hy⟩)
    have HKN := aside hk
    have hk0 : (0 : Int) ≤ (k : Int) := by omega
    have hk1 : (k : Int) < (xs.length : Int) := by omega
    have hk2 : ¬ (xs.length : Int) ≤ (k : Int) := by omega
    have hw1 : IntKind.i64.wrap ((k : Int) + 1) = (((k + 1 : Nat)) : Int) := by rw [IntKind.wrap_i64]; have := HXL.out; omega
    by_cases hxy : x = y
    · subst hxy
      have hNE : ∀ w, (binOp .neq 33 (.agg #[.string x.k, .int .i64 x.c, .int .i64 x.n, .string x.v, .bool x.d]) (.agg #[.string x.k, .int .i64 x.c, .int .i64 x.n, .string x.v, .bool x.d])).run Tryd.prog w = .ok (.bool false) w := fun w => by rw [ent_ne, enEqB_same]; rfl
      clear eA hxk hk hy
      gi_wp2_with fail
      refine wpIn_region_held (S := fun Y => Below X.heap.size X Y ∧ Y.cell? ⟨atb, 0, none⟩ = some (.int .i64 (k : Int)) ∧ Y.cell? ⟨ob, 0, none⟩ = some (.slice (some ⟨ba, oo, none⟩) xs.length oc) ∧ (Y.cell? ⟨eb, 0, none⟩ = some (.string x.k) ∧ Y.cell? ⟨eb, 1, none⟩ = some (.int .i64 x.c) ∧ Y.cell? ⟨eb, 2, none⟩ = some (.int .i64 x.n) ∧ Y.cell? ⟨eb, 3, none⟩ = some (.string x.v) ∧ Y.cell? ⟨eb, 4, none⟩ = some (.bool x.d)) ∧ (Y.cell? ⟨ba, oo + k * 5, none⟩ = some (.string x.k) ∧ Y.cell? ⟨ba, oo + k * 5 + 1, none⟩ = some (.int .i64 x.c) ∧ Y.cell? ⟨ba, oo + k * 5 + 2, none⟩ = some (.int .i64 x.n) ∧ Y.cell? ⟨ba, oo + k * 5 + 3, none⟩ = some (.string x.v) ∧ Y.cell? ⟨ba, oo + k * 5 + 4, none⟩ = some (.bool x.d))) (by kernel_rfl) (by kernel_rfl) (fun ⟨_, _, h⟩ => h) S0.out (fun hHeld => ?_)
      refine wpAnyH_take (i := 0) (v := ?_) rfl (by kernel_rfl) (by kernel_rfl) (by kernel_rfl) (fun _ _ _ h => h) (Or.inl ⟨by rfl, ?_⟩) (by assumption) ?_
      rotate_left
      · intro w hSw
        go_simp
        try with_reducible rfl
      simp only [Act.put, List.getElem_toArray, List.getElem_cons_zero, List.setIfInBounds_toArray, List.set_cons_zero, List.set_cons_succ]
      refine wpAnyH_take (i := 1) (v := ?_) rfl (by kernel_rfl) (by kernel_rfl) (by kernel_rfl) (fun _ _ _ h => h) (Or.inl ⟨by rfl, ?_⟩) (by assumption) ?_
      rotate_left
      · intro w hSw
        go_simp
        try with_reducible rfl
      simp only [Act.put, List.getElem_toArray, List.getElem_cons_zero, List.getElem_cons_succ, List.setIfInBounds_toArray, List.set_cons_zero, List.set_cons_succ]
      refine wpAnyH_take (i := 2) (v := ?_) rfl (by kernel_rfl) (by kernel_rfl) (by kernel_rfl) (fun _ _ _ h => h) (Or.inl ⟨by rfl, ?_⟩) (by assumption) ?_
      rotate_left
      · intro w hSw
        go_simp
        try with_reducible rfl
      simp only [Act.put, List.getElem_toArray, List.getElem_cons_zero, List.getElem_cons_succ, List.setIfInBounds_toArray, List.set_cons_zero, List.set_cons_succ]
      refine wpAnyH_take (i := 3) (v := .bool false) rfl (by kernel_rfl) (by kernel_rfl) (by kernel_rfl) (fun _ _ _ h => h) (Or.inl ⟨by rfl, ?_⟩) (by assumption) ?_
      · intro w hSw
        go_simp
        all_goals (have h9 := HKN.out; omega)
      simp only [Act.put, List.getElem_toArray, List.getElem_cons_zero, List.getElem_cons_succ, List.setIfInBounds_toArray, List.set_cons_zero, List.set_cons_succ]
      refine wpAnyH_take (i := 4) (v := ?_) rfl (by kernel_rfl) (by kernel_rfl) (by kernel_rfl) (fun _ _ _ h => h) (Or.inl ⟨by rfl, ?_⟩) (by assumption) ?_
      rotate_left
      · intro w hSw
        go_simp
        try with_reducible rfl
      simp only [Act.put, List.getElem_toArray, List.getElem_cons_zero, List.getElem_cons_succ, List.setIfInBounds_toArray, List.set_cons_zero, List.set_cons_succ]
      refine wpAnyH_take (i := 5) (v := ?_) rfl (by kernel_rfl) (by kernel_rfl) (by kernel_rfl) (fun _ _ _ h => h) (Or.inl ⟨by rfl, ?_⟩) (by assumption) ?_
      rotate_left
      · intro w hSw
        go_simp
        try with_reducible rfl
      simp only [Act.put, List.getElem_toArray, List.getElem_cons_zero, List.getElem_cons_succ, List.setIfInBounds_toArray, List.set_cons_zero, List.set_cons_succ]
      refine wpAnyH_take (i := 6) (v := ?_) rfl (by kernel_rfl) (by kernel_rfl) (by kernel_rfl) (fun _ _ _ h => h) (Or.inl ⟨by rfl, ?_⟩) (by assumption) ?_
      rotate_left
      · intro w hSw
        go_simp
        try with_reducible rfl
      simp only [Act.put, List.getElem_toArray, List.getElem_cons_zero, List.getElem_cons_succ, List.setIfInBounds_toArray, List.set_cons_zero, List.set_cons_succ]
      refine wpAnyH_take (i := 7) (v := ?_) rfl (by kernel_rfl) (by kernel_rfl) (by kernel_rfl) (fun _ _ _ h => h) (Or.inl ⟨by rfl, ?_⟩) (by assumption) ?_
      rotate_left
      · intro w hSw
        go_simp
        try with_reducible rfl
      simp only [Act.put, List.getElem_toArray, List.getElem_cons_zero, List.getElem_cons_succ, List.setIfInBounds_toArray, List.set_cons_zero, List.set_cons_succ]
      refine wpAnyH_take (i := 8) (v := ?_) rfl (by kernel_rfl) (by kernel_rfl) (by kernel_rfl) (fun _ _ _ h => h) (Or.inl ⟨by rfl, ?_⟩) (by assumption) ?_
      rotate_left
      · intro w hSw
        go_simp
        try with_reducible rfl
      simp only [Act.put, List.getElem_toArray, List.getElem_cons_zero, List.getElem_cons_succ, List.setIfInBounds_toArray, List.set_cons_zero, List.set_cons_succ]
      refine wpAnyH_take (i := 9) (v := ?_) rfl (by kernel_rfl) (by kernel_rfl) (by kernel_rfl) (fun _ _ _ h => h) (Or.inl ⟨by rfl, ?_⟩) (by assumption) ?_
      rotate_left
      · intro w hSw
        go_simp
        try with_reducible rfl
      simp only [Act.put, List.getElem_toArray, List.getElem_cons_zero, List.getElem_cons_succ, List.setIfInBounds_toArray, List.set_cons_zero, List.set_cons_succ]
      refine wpAnyH_take (i := 10) (v := .bool false) rfl (by kernel_rfl) (by kernel_rfl) (by kernel_rfl) (fun _ _ _ h => h) (Or.inl ⟨by rfl, ?_⟩) (by assumption) ?_
      · intro w hSw
        go_simp
      simp only [Act.put, List.getElem_toArray, List.getElem_cons_zero, List.getElem_cons_succ, List.setIfInBounds_toArray, List.set_cons_zero, List.set_cons_succ]
      refine wpAnyH_take (i := 11) (v := ?_) rfl (by kernel_rfl) (by kernel_rfl) (by kernel_rfl) (fun _ _ _ h => h) (Or.inl ⟨by rfl, ?_⟩) (by assumption) ?_
      rotate_left
      · intro w hSw
        go_simp
        try with_reducible rfl
      simp only [Act.put, List.getElem_toArray, List.getElem_cons_zero, List.getElem_cons_succ, List.setIfInBounds_toArray, List.set_cons_zero, List.set_cons_succ]
      refine wpAnyH_done (by kernel_rfl) ?_ _
      clear hHeld S0
      have KB := aside (blk_on LX.out.ba (Below.refl _ X).drew)
      have r0 := cell_one KB.out
      have rz := frozen_one KB.out
      gi_wp2
      refine ⟨(kf_below (Below.refl _ X).drew).trans ((KeepsOthers.setCell _ _ _).from _), ?_, ?_, ?_⟩
      · exact ⟨(((Stay.refl _ X).drew).setCell _ (fun cs e => by dsimp only at e; rw [KB.out] at e; simp at e)), (((Stay.refl _ X).drew).setCell _ (fun cs e => by dsimp only at e; rw [KB.out] at e; simp at e)), (((Stay.refl _ X).drew).setCell _ (fun cs e => by dsimp only at e; rw [KB.out] at e; simp at e))⟩
      · have kz := heap_setCell_same X.drew atb 0 _ _ (.int .i64 (((k + 1 : Nat)) : Int)) KB.out
        simp only [List.setIfInBounds_toArray, List.set_cons_zero] at kz
        rw [List.length_append, List.length_singleton, show a0 + (pre.length + 1) = k + 1 from by rw [← HK.out]; rfl]
        exact kz
      · exact (HKX.out.trans (Keeps.of_below (Below.refl _ X).drew _)).setCell (p := ⟨atb, 0, none⟩) (fun _ => rfl) _
    · have hNE : ∀ w, (binOp .neq 33 (.agg #[.string x.k, .int .i64 x.c, .int .i64 x.n, .string x.v, .bool x.d]) (.agg #[.string y.k, .int .i64 y.c, .int .i64 y.n, .string y.v, .bool y.d])).run Tryd.prog w = .ok (.bool true) w := fun w => by rw [ent_ne, enEqB_ne hxy]; rfl
      have HNP := aside (show ¬ (pre ++ [x]) <+: es from fun h => hxy (by have h9 := HPT.out pre x h; rw [HK.out, hxk] at h9; exact (Option.some.inj h9).symm))
      clear eA hxk hk hy hxy
      gi_wp2_with fail
      refine wpIn_region_held (S := fun Y => Below X.heap.size X Y ∧ Y.cell? ⟨atb, 0, none⟩ = some (.int .i64 (k : Int)) ∧ Y.cell? ⟨ob, 0, none⟩ = some (.slice (some ⟨ba, oo, none⟩) xs.length oc) ∧ (Y.cell? ⟨eb, 0, none⟩ = some (.string x.k) ∧ Y.cell? ⟨eb, 1, none⟩ = some (.int .i64 x.c) ∧ Y.cell? ⟨eb, 2, none⟩ = some (.int .i64 x.n) ∧ Y.cell? ⟨eb, 3, none⟩ = some (.string x.v) ∧ Y.cell? ⟨eb, 4, none⟩ = some (.bool x.d)) ∧ (Y.cell? ⟨ba, oo + k * 5, none⟩ = some (.string y.k) ∧ Y.cell? ⟨ba, oo + k * 5 + 1, none⟩ = some (.int .i64 y.c) ∧ Y.cell? ⟨ba, oo + k * 5 + 2, none⟩ = some (.int .i64 y.n) ∧ Y.cell? ⟨ba, oo + k * 5 + 3, none⟩ = some (.string y.v) ∧ Y.cell? ⟨ba, oo + k * 5 + 4, none⟩ = some (.bool y.d))) (by kernel_rfl) (by kernel_rfl) (fun ⟨_, _, h⟩ => h) S0.out (fun hHeld => ?_)
      refine wpAnyH_take (i := 0) (v := ?_) rfl (by kernel_rfl) (by kernel_rfl) (by kernel_rfl) (fun _ _ _ h => h) (Or.inl ⟨by rfl, ?_⟩) (by assumption) ?_
      rotate_left
      · intro w hSw
        go_simp
        try with_reducible rfl
      simp only [Act.put, List.getElem_toArray, List.getElem_cons_zero, List.setIfInBounds_toArray, List.set_cons_zero, List.set_cons_succ]
      refine wpAnyH_take (i := 1) (v := ?_) rfl (by kernel_rfl) (by kernel_rfl) (by kernel_rfl) (fun _ _ _ h => h) (Or.inl ⟨by rfl, ?_⟩) (by assumption) ?_
      rotate_left
      · intro w hSw
        go_simp
        try with_reducible rfl
      simp only [Act.put, List.getElem_toArray, List.getElem_cons_zero, List.getElem_cons_succ, List.setIfInBounds_toArray, List.set_cons_zero, List.set_cons_succ]
      refine wpAnyH_take (i := 2) (v := ?_) rfl (by kernel_rfl) (by kernel_rfl) (by kernel_rfl) (fun _ _ _ h => h) (Or.inl ⟨by rfl, ?_⟩) (by assumption) ?_
      rotate_left
      · intro w hSw
        go_simp
        try with_reducible rfl
      simp only [Act.put, List.getElem_toArray, List.getElem_cons_zero, List.getElem_cons_succ, List.setIfInBounds_toArray, List.set_cons_zero, List.set_cons_succ]
      refine wpAnyH_take (i := 3) (v := .bool false) rfl (by kernel_rfl) (by kernel_rfl) (by kernel_rfl) (fun _ _ _ h => h) (Or.inl ⟨by rfl, ?_⟩) (by assumption) ?_
      · intro w hSw
        go_simp
        all_goals (have h9 := HKN.out; omega)
      simp only [Act.put, List.getElem_toArray, List.getElem_cons_zero, List.getElem_cons_succ, List.setIfInBounds_toArray, List.set_cons_zero, List.set_cons_succ]
      refine wpAnyH_take (i := 4) (v := ?_) rfl (by kernel_rfl) (by kernel_rfl) (by kernel_rfl) (fun _ _ _ h => h) (Or.inl ⟨by rfl, ?_⟩) (by assumption) ?_
      rotate_left
      · intro w hSw
        go_simp
        try with_reducible rfl
      simp only [Act.put, List.getElem_toArray, List.getElem_cons_zero, List.getElem_cons_succ, List.setIfInBounds_toArray, List.set_cons_zero, List.set_cons_succ]
      refine wpAnyH_take (i := 5) (v := ?_) rfl (by kernel_rfl) (by kernel_rfl) (by kernel_rfl) (fun _ _ _ h => h) (Or.inl ⟨by rfl, ?_⟩) (by assumption) ?_
      rotate_left
      · intro w hSw
        go_simp
        try with_reducible rfl
      simp only [Act.put, List.getElem_toArray, List.getElem_cons_zero, List.getElem_cons_succ, List.setIfInBounds_toArray, List.set_cons_zero, List.set_cons_succ]
      refine wpAnyH_take (i := 6) (v := ?_) rfl (by kernel_rfl) (by kernel_rfl) (by kernel_rfl) (fun _ _ _ h => h) (Or.inl ⟨by rfl, ?_⟩) (by assumption) ?_
      rotate_left
      · intro w hSw
        go_simp
        try with_reducible rfl
      simp only [Act.put, List.getElem_toArray, List.getElem_cons_zero, List.getElem_cons_succ, List.setIfInBounds_toArray, List.set_cons_zero, List.set_cons_succ]
      refine wpAnyH_take (i := 7) (v := ?_) rfl (by kernel_rfl) (by kernel_rfl) (by kernel_rfl) (fun _ _ _ h => h) (Or.inl ⟨by rfl, ?_⟩) (by assumption) ?_
      rotate_left
      · intro w hSw
        go_simp
        try with_reducible rfl
      simp only [Act.put, List.getElem_toArray, List.getElem_cons_zero, List.getElem_cons_succ, List.setIfInBounds_toArray, List.set_cons_zero, List.set_cons_succ]
      refine wpAnyH_take (i := 8) (v := ?_) rfl (by kernel_rfl) (by kernel_rfl) (by kernel_rfl) (fun _ _ _ h => h) (Or.inl ⟨by rfl, ?_⟩) (by assumption) ?_
      rotate_left
      · intro w hSw
        go_simp
        try with_reducible rfl
      simp only [Act.put, List.getElem_toArray, List.getElem_cons_zero, List.getElem_cons_succ, List.setIfInBounds_toArray, List.set_cons_zero, List.set_cons_succ]
      refine wpAnyH_take (i := 9) (v := ?_) rfl (by kernel_rfl) (by kernel_rfl) (by kernel_rfl) (fun _ _ _ h => h) (Or.inl ⟨by rfl, ?_⟩) (by assumption) ?_
      rotate_left
      · intro w hSw
        go_simp
        try with_reducible rfl
      simp only [Act.put, List.getElem_toArray, List.getElem_cons_zero, List.getElem_cons_succ, List.setIfInBounds_toArray, List.set_cons_zero, List.set_cons_succ]
      refine wpAnyH_take (i := 10) (v := .bool true) rfl (by kernel_rfl) (by kernel_rfl) (by kernel_rfl) (fun _ _ _ h => h) (Or.inl ⟨by rfl, ?_⟩) (by assumption) ?_
      · intro w hSw
        go_simp
      simp only [Act.put, List.getElem_toArray, List.getElem_cons_zero, List.getElem_cons_succ, List.setIfInBounds_toArray, List.set_cons_zero, List.set_cons_succ]
      refine wpAnyH_take (i := 11) (v := ?_) rfl (by kernel_rfl) (by kernel_rfl) (by kernel_rfl) (fun _ _ _ h => h) (Or.inl ⟨by rfl, ?_⟩) (by assumption) ?_
      rotate_left
      · intro w hSw
        go_simp
        try with_reducible rfl
      simp only [Act.put, List.getElem_toArray, List.getElem_cons_zero, List.getElem_cons_succ, List.setIfInBounds_toArray, List.set_cons_zero, List.set_cons_succ]
      refine wpAnyH_done (by kernel_rfl) ?_ _
      clear hHeld
      have KQ := aside (blk_on LX.out.s.kq (Below.refl _ X).drew)
      have r0 := cell_one KQ.out
      have rz := frozen_one KQ.out
      gi_wp2
      exact ⟨(kf_below (Below.refl _ X).drew).trans ((KeepsOthers.setCell _ _ _).from _), rfl, HNP.out⟩
  · have hk2 : (xs.length : Int) ≤ (k : Int) := by omega
    have HNP := aside (show ¬ (pre ++ [x]) <+: es from fun h => hk (by have h9 := HPT.out pre x h; rw [HK.out] at h9; exact (List.getElem?_eq_some_iff.1 h9).1))
    clear hk
    gi_wp2_with fail
    refine wpIn_region_held (S := fun Y => Below X.heap.size X Y ∧ Y.cell? ⟨atb, 0, none⟩ = some (.int .i64 (k : Int)) ∧ Y.cell? ⟨ob, 0, none⟩ = some (.slice oa xs.length oc)) (by kernel_rfl) (by kernel_rfl) (fun ⟨_, _, h⟩ => h) ⟨(Below.refl _ X).drew, cell_one (blk_on LX.out.ba (Below.refl _ X).drew), cell_one (blk_on LX.out.bo (Below.refl _ X).drew)⟩ (fun hHeld => ?_)
    refine wpAnyH_take (i := 0) (v := ?_) rfl (by kernel_rfl) (by kernel_rfl) (by kernel_rfl) (fun _ _ _ h => h) (Or.inl ⟨by rfl, ?_⟩) (by assumption) ?_
    rotate_left
    · intro w hSw
      go_simp
      try with_reducible rfl
    simp only [Act.put, List.getElem_toArray, List.getElem_cons_zero, List.setIfInBounds_toArray, List.set_cons_zero, List.set_cons_succ]
    refine wpAnyH_take (i := 1) (v := ?_) rfl (by kernel_rfl) (by kernel_rfl) (by kernel_rfl) (fun _ _ _ h => h) (Or.inl ⟨by rfl, ?_⟩) (by assumption) ?_
    rotate_left
    · intro w hSw
      go_simp
      try with_reducible rfl
    simp only [Act.put, List.getElem_toArray, List.getElem_cons_zero, List.getElem_cons_succ, List.setIfInBounds_toArray, List.set_cons_zero, List.set_cons_succ]
    refine wpAnyH_take (i := 2) (v := ?_) rfl (by kernel_rfl) (by kernel_rfl) (by kernel_rfl) (fun _ _ _ h => h) (Or.inl ⟨by rfl, ?_⟩) (by assumption) ?_
    rotate_left
    · intro w hSw
      go_simp
      try with_reducible rfl
    simp only [Act.put, List.getElem_toArray, List.getElem_cons_zero, List.getElem_cons_succ, List.setIfInBounds_toArray, List.set_cons_zero, List.set_cons_succ]
    refine wpAnyH_take (i := 3) (v := .bool true) rfl (by kernel_rfl) (by kernel_rfl) (by kernel_rfl) (fun _ _ _ h => h) (Or.inl ⟨by rfl, ?_⟩) (by assumption) ?_
    · intro w hSw
      go_simp
      all_goals omega
    simp only [Act.put, List.getElem_toArray, List.getElem_cons_zero, List.getElem_cons_succ, List.setIfInBounds_toArray, List.set_cons_zero, List.set_cons_succ]
    refine wpAnyH_take (i := 4) (v := ?_) rfl (by kernel_rfl) (by kernel_rfl) (by kernel_rfl) (fun _ _ _ h => h) (Or.inl ⟨by rfl, ?_⟩) (by assumption) ?_
    rotate_left
    · intro w hSw
      go_simp
      try with_reducible rfl
    simp only [Act.put, List.getElem_toArray, List.getElem_cons_zero, List.getElem_cons_succ, List.setIfInBounds_toArray, List.set_cons_zero, List.set_cons_succ]
    refine wpAnyH_take (i := 5) (v := undef) rfl (by kernel_rfl) (by kernel_rfl) (by kernel_rfl) (fun _ _ _ h => h) (Or.inr ⟨by rfl, rfl⟩) (by assumption) ?_
    simp only [Act.put, List.getElem_toArray, List.getElem_cons_zero, List.getElem_cons_succ, List.setIfInBounds_toArray, List.set_cons_zero, List.set_cons_succ]
    refine wpAnyH_take (i := 6) (v := undef) rfl (by kernel_rfl) (by kernel_rfl) (by kernel_rfl) (fun _ _ _ h => h) (Or.inr ⟨by rfl, rfl⟩) (by assumption) ?_
    simp only [Act.put, List.getElem_toArray, List.getElem_cons_zero, List.getElem_cons_succ, List.setIfInBounds_toArray, List.set_cons_zero, List.set_cons_succ]
    refine wpAnyH_take (i := 7) (v := undef) rfl (by kernel_rfl) (by kernel_rfl) (by kernel_rfl) (fun _ _ _ h => h) (Or.inr ⟨by rfl, rfl⟩) (by assumption) ?_
    simp only [Act.put, List.getElem_toArray, List.getElem_cons_zero, List.getElem_cons_succ, List.setIfInBounds_toArray, List.set_cons_zero, List.set_cons_succ]
    refine wpAnyH_take (i := 8) (v := undef) rfl (by kernel_rfl) (by kernel_rfl) (by kernel_rfl) (fun _ _ _ h => h) (Or.inr ⟨by rfl, rfl⟩) (by assumption) ?_
    simp only [Act.put, List.getElem_toArray, List.getElem_cons_zero, List.getElem_cons_succ, List.setIfInBounds_toArray, List.set_cons_zero, List.set_cons_succ]
    refine wpAnyH_take (i := 9) (v := undef) rfl (by kernel_rfl) (by kernel_rfl) (by kernel_rfl) (fun _ _ _ h => h) (Or.inr ⟨by rfl, rfl⟩) (by assumption) ?_
    simp only [Act.put, List.getElem_toArray, List.getElem_cons_zero, List.getElem_cons_succ, List.setIfInBounds_toArray, List.set_cons_zero, List.set_cons_succ]
    refine wpAnyH_take (i := 10) (v := undef) rfl (by kernel_rfl) (by kernel_rfl) (by kernel_rfl) (fun _ _ _ h => h) (Or.inr ⟨by rfl, rfl⟩) (by assumption) ?_
    simp only [Act.put, List.getElem_toArray, List.getElem_cons_zero, List.getElem_cons_succ, List.setIfInBounds_toArray, List.set_cons_zero, List.set_cons_succ]
    refine wpAnyH_take (i := 11) (v := ?_) rfl (by kernel_rfl) (by kernel_rfl) (by kernel_rfl) (fun _ _ _ h => h) (Or.inl ⟨by rfl, ?_⟩) (by assumption) ?_
    rotate_left
    · intro w hSw
      go_simp
      try with_reducible rfl
    simp only [Act.put, List.getElem_toArray, List.getElem_cons_zero, List.getElem_cons_succ, List.setIfInBounds_toArray, List.set_cons_zero, List.set_cons_succ]
    refine wpAnyH_done (by kernel_rfl) ?_ _
    clear hHeld
    have KQ := aside (blk_on LX.out.s.kq (Below.refl _ X).drew)
    have r0 := cell_one KQ.out
    have rz := frozen_one KQ.out
    gi_wp2
    exact ⟨(kf_below (Below.refl _ X).drew).trans ((KeepsOthers.setCell _ _ _).from _), rfl, HNP.out⟩
end Go.Proofs.YtoflalflacopdaaDoor

/-
  rows and Fold.
  Next, the code's and the document's own, as one plain function; and what it promises.
-/
import Derived.Test.YtlbkcndmljlnmaaDoorBj20
import Derived.Test.YtlbkcndmljlnmaaDoorBj1
namespace Go.Proofs.YtlbkcndmljlnmaaDoor
open Go.RowKit
set_option linter.unusedVariables false
theorem held_rows {w X : World} {sb g tb : Nat} {nd ck : Int} {T : Tr En Tl} {n : Nat} {lo hi : ByteArray} {op : Bool} (h : IsSt X sb g tb nd ck T n) (hb : X.heap[w.heap.size]? = some (.cells #[.string lo, .string hi, .bool op] 51 (0, 0))) : X.cell? ⟨sb, 3, none⟩ = some (.pointer (some ⟨tb, 0, none⟩)) ∧ X.cell? ⟨w.heap.size, 0, none⟩ = some (.string lo) ∧ X.cell? ⟨w.heap.size, 1, none⟩ = some (.string hi) ∧ X.cell? ⟨w.heap.size, 2, none⟩ = some (.bool op) := by
  obtain ⟨c0, c1, c2, c3, -⟩ := quad h.blk
  obtain ⟨b0, b1, b2, -⟩ := tri hb
  exact ⟨c3, b0, b1, b2⟩
theorem yrank_at {w : World} {tb g : Nat} {T : Tr En Tl} {Ls : List En} (k : ByteArray) {q : Int} (h : TreeE w tb (jvE g) T) (hH : Hol T Ls) (hl : Ls.length ≤ 1000000) (hq : (belE k Ls : Int) = q) :
    Calls Tryd.prog 98 #[.pointer (some ⟨tb, 0, none⟩), .string k] w fun e w' => e = .returned (.int .i64 q) ∧ Below w.heap.size w w' := by
  have h1 := yrankE k h hH.gd (by omega)
  rw [hH.lower, hq] at h1
  exact h1
set_option maxHeartbeats 3200000 in
set_option maxRecDepth 100000 in
theorem srowsO (lo hi : ByteArray) {Ls : List En} {w : World} {sb g tb : Nat} {nd ck : Int} {T : Tr En Tl} {n : Nat} (h : IsSt w sb g tb nd ck T n) (hH : Hol T Ls) (hl : Ls.length ≤ 1000000) :
    Calls Tryd.prog 80 #[.pointer (some ⟨sb, 0, none⟩), .agg #[.string lo, .string hi, .bool true]] w fun r w' => r = .returned (.tuple #[.int .i64 (belE lo Ls : Int), .int .i64 (endE hi true Ls : Int)]) ∧ Below w.heap.size w w' := by
  obtain ⟨a, ha⟩ : ∃ a : Int, (belE lo Ls : Int) = a := ⟨_, rfl⟩
  obtain ⟨b, hb⟩ : ∃ b : Int, (endE hi true Ls : Int) = b := ⟨_, rfl⟩
  have H := aside (h.alloc (.cells #[.string lo, .string hi, .bool true] 51))
  have G := aside (heap_alloc_new w (.cells #[.string lo, .string hi, .bool true] 51))
  have B0 := aside (bnew w (.cells #[.string lo, .string hi, .bool true] 51))
  have C1 := aside (fun (W : World) (h : IsSt W sb g tb nd ck T n) => yrank_at lo h.tree hH hl ha)
  have C2 := aside (fun (W : World) (h : IsSt W sb g tb nd ck T n) => slen h)
  rw [show (T.cnt : Int) = b from by rw [hH.cnt, ← hb]; rfl] at C2
  rw [ha, hb]
  clear h hH hl ha hb
  go_enter Tryd.func80, Tryd.ntmps80
  obtain ⟨-, -, q2, -⟩ := tri G.out
  go_wp2_with fail
  clear q2
  generalize w.alloc (.cells #[.string lo, .string hi, .bool true] 51) = V at *
  refine wp_region_held_drew (S := fun X => X.cell? ⟨sb, 3, none⟩ = some (.pointer (some ⟨tb, 0, none⟩)) ∧ X.cell? ⟨w.heap.size, 0, none⟩ = some (.string lo) ∧ X.cell? ⟨w.heap.size, 1, none⟩ = some (.string hi) ∧ X.cell? ⟨w.heap.size, 2, none⟩ = some (.bool true)) (by kernel_rfl) (held_rows H.out.drew G.out) (fun hHeld => ?_)
  refine wpAnyH_take (i := 0) (v := ?_) rfl (by kernel_rfl) (by kernel_rfl) (by kernel_rfl) (fun _ _ _ h => h) (Or.inl ⟨by rfl, ?_⟩) (by assumption) ?_
  rotate_left
  · intro w hSw
    go_simp
    try with_reducible rfl
  simp only [Act.put, List.getElem_toArray, List.getElem_cons_zero, List.setIfInBounds_toArray, List.set_cons_zero, List.set_cons_succ]
  refine wpAnyH_take (i := 1) (v := ?_) rfl (by kernel_rfl) (by kernel_rfl) (by kernel_rfl) (fun _ _ _ h => h) (Or.inl ⟨by rfl, ?_⟩) (by assumption) ?_
  rotate_left
  · intro w hSw
    go_simp
    try with_reducible rfl
  simp only [Act.put, List.getElem_toArray, List.getElem_cons_zero, List.getElem_cons_succ, List.setIfInBounds_toArray, List.set_cons_zero, List.set_cons_succ]
  refine wpAnyH_take (i := 2) (v := ?_) rfl (by kernel_rfl) (by kernel_rfl) (by kernel_rfl) (fun _ _ _ h => h) (Or.inl ⟨by rfl, ?_⟩) (by assumption) ?_
  rotate_left
  · intro w hSw
    go_simp
    try with_reducible rfl
  simp only [Act.put, List.getElem_toArray, List.getElem_cons_zero, List.getElem_cons_succ, List.setIfInBounds_toArray, List.set_cons_zero, List.set_cons_succ]
  refine wpAnyH_take (i := 3) (v := ?_) rfl (by kernel_rfl) (by kernel_rfl) (by kernel_rfl) (fun _ _ _ h => h) (Or.inl ⟨by rfl, ?_⟩) (by assumption) ?_
  rotate_left
  · intro w hSw
    go_simp
    try with_reducible rfl
  simp only [Act.put, List.getElem_toArray, List.getElem_cons_zero, List.getElem_cons_succ, List.setIfInBounds_toArray, List.set_cons_zero, List.set_cons_succ]
  refine wpAnyH_take (i := 4) (v := ?_) rfl (by kernel_rfl) (by kernel_rfl) (by kernel_rfl) (fun _ _ _ h => h) (Or.inl ⟨by rfl, ?_⟩) (by assumption) ?_
  rotate_left
  · intro w hSw
    go_simp
    try with_reducible rfl
  simp only [Act.put, List.getElem_toArray, List.getElem_cons_zero, List.getElem_cons_succ, List.setIfInBounds_toArray, List.set_cons_zero, List.set_cons_succ]
  refine wpAnyH_take (i := 5) (v := ?_) rfl (by kernel_rfl) (by kernel_rfl) (by kernel_rfl) (fun _ _ _ h => h) (Or.inl ⟨by rfl, ?_⟩) (by assumption) ?_
  rotate_left
  · intro w hSw
    go_simp
    try with_reducible rfl
  simp only [Act.put, List.getElem_toArray, List.getElem_cons_zero, List.getElem_cons_succ, List.setIfInBounds_toArray, List.set_cons_zero, List.set_cons_succ]
  refine wpAnyH_take (i := 7) (v := ?_) rfl (by kernel_rfl) (by kernel_rfl) (by kernel_rfl) (fun _ _ _ h => h) (Or.inl ⟨by rfl, ?_⟩) (by assumption) ?_
  rotate_left
  · intro w hSw
    go_simp
    try with_reducible rfl
  simp only [Act.put, List.getElem_toArray, List.getElem_cons_zero, List.getElem_cons_succ, List.setIfInBounds_toArray, List.set_cons_zero, List.set_cons_succ]
  refine wpAnyH_ready (rs := [6]) (by kernel_rfl) (by simp) ?_
  refine AllReadyH.cons rfl (fun K hK => ?_) AllReadyH.nil
  go_simp
  refine (C1.out _ H.out.drew).mono ?_
  rintro e w9 ⟨rfl, bb⟩
  refine hK.out _ _ (held_rows (H.out.drew.below bb) (blk_on (show V.drew.heap[w.heap.size]? = some _ from G.out) bb)) (fun hHeld => ?_)
  clear hK K 
  have H1 := aside (H.out.drew.below bb)
  have G1 := aside (blk_on (show V.drew.heap[w.heap.size]? = some _ from G.out) bb)
  have B1 := aside (bthen B0.out.drew bb)
  clear bb
  refine wpAnyH_ready (rs := [8]) (by kernel_rfl) (by simp) ?_
  refine AllReadyH.cons rfl (fun K hK => ?_) AllReadyH.nil
  go_simp
  refine (C2.out _ H1.out).mono ?_
  rintro e w9 ⟨rfl, rfl⟩
  refine hK.out _ _ (hHeld) (fun hHeld => ?_)
  clear hK K 
  refine wpAnyH_take (i := 9) (v := ?_) rfl (by kernel_rfl) (by kernel_rfl) (by kernel_rfl) (fun _ _ _ h => h) (Or.inl ⟨by rfl, ?_⟩) (by assumption) ?_
  rotate_left
  · intro w hSw
    go_simp
    try with_reducible rfl
  simp only [Act.put, List.getElem_toArray, List.getElem_cons_zero, List.getElem_cons_succ, List.setIfInBounds_toArray, List.set_cons_zero, List.set_cons_succ]
  refine wpAnyH_take (i := 10) (v := ?_) rfl (by kernel_rfl) (by kernel_rfl) (by kernel_rfl) (fun _ _ _ h => h) (Or.inl ⟨by rfl, ?_⟩) (by assumption) ?_
  rotate_left
  · intro w hSw
    go_simp
    try with_reducible rfl
  simp only [Act.put, List.getElem_toArray, List.getElem_cons_zero, List.getElem_cons_succ, List.setIfInBounds_toArray, List.set_cons_zero, List.set_cons_succ]
  refine wpAnyH_done (by kernel_rfl) ?_ _
  go_wp2
  refine bodyPost_ret (v := .tuple #[.int .i64 a, .int .i64 b]) (by simp [results, Tryd.results80, go_sem]) rfl ⟨rfl, B1.out⟩
set_option maxHeartbeats 3200000 in
set_option maxRecDepth 100000 in
theorem srowsC (lo hi : ByteArray) {Ls : List En} {w : World} {sb g tb : Nat} {nd ck : Int} {T : Tr En Tl} {n : Nat} (h : IsSt w sb g tb nd ck T n) (hH : Hol T Ls) (hl : Ls.length ≤ 1000000) :
    Calls Tryd.prog 80 #[.pointer (some ⟨sb, 0, none⟩), .agg #[.string lo, .string hi, .bool false]] w fun r w' => r = .returned (.tuple #[.int .i64 (belE lo Ls : Int), .int .i64 (endE hi false Ls : Int)]) ∧ Below w.heap.size w w' := by
  obtain ⟨a, ha⟩ : ∃ a : Int, (belE lo Ls : Int) = a := ⟨_, rfl⟩
  obtain ⟨b, hb⟩ : ∃ b : Int, (endE hi false Ls : Int) = b := ⟨_, rfl⟩
  have H := aside (h.alloc (.cells #[.string lo, .string hi, .bool false] 51))
  have G := aside (heap_alloc_new w (.cells #[.string lo, .string hi, .bool false] 51))
  have B0 := aside (bnew w (.cells #[.string lo, .string hi, .bool false] 51))
  have C1 := aside (fun (W : World) (h : IsSt W sb g tb nd ck T n) => yrank_at lo h.tree hH hl ha)
  have C2 := aside (fun (W : World) (h : IsSt W sb g tb nd ck T n) => yrank_at hi h.tree hH hl (show (belE hi Ls : Int) = b from hb))
  rw [ha, hb]
  clear h hH hl ha hb
  go_enter Tryd.func80, Tryd.ntmps80
  obtain ⟨-, -, q2, -⟩ := tri G.out
  go_wp2_with fail
  clear q2
  generalize w.alloc (.cells #[.string lo, .string hi, .bool false] 51) = V at *
  refine wp_region_held_drew (S := fun X => X.cell? ⟨sb, 3, none⟩ = some (.pointer (some ⟨tb, 0, none⟩)) ∧ X.cell? ⟨w.heap.size, 0, none⟩ = some (.string lo) ∧ X.cell? ⟨w.heap.size, 1, none⟩ = some (.string hi) ∧ X.cell? ⟨w.heap.size, 2, none⟩ = some (.bool false)) (by kernel_rfl) (held_rows H.out.drew G.out) (fun hHeld => ?_)
  refine wpAnyH_take (i := 0) (v := ?_) rfl (by kernel_rfl) (by kernel_rfl) (by kernel_rfl) (fun _ _ _ h => h) (Or.inl ⟨by rfl, ?_⟩) (by assumption) ?_
  rotate_left
  · intro w hSw
    go_simp
    try with_reducible rfl
  simp only [Act.put, List.getElem_toArray, List.getElem_cons_zero, List.setIfInBounds_toArray, List.set_cons_zero, List.set_cons_succ]
  refine wpAnyH_take (i := 1) (v := ?_) rfl (by kernel_rfl) (by kernel_rfl) (by kernel_rfl) (fun _ _ _ h => h) (Or.inl ⟨by rfl, ?_⟩) (by assumption) ?_
  rotate_left
  · intro w hSw
    go_simp
    try with_reducible rfl
  simp only [Act.put, List.getElem_toArray, List.getElem_cons_zero, List.getElem_cons_succ, List.setIfInBounds_toArray, List.set_cons_zero, List.set_cons_succ]
  refine wpAnyH_take (i := 2) (v := ?_) rfl (by kernel_rfl) (by kernel_rfl) (by kernel_rfl) (fun _ _ _ h => h) (Or.inl ⟨by rfl, ?_⟩) (by assumption) ?_
  rotate_left
  · intro w hSw
    go_simp
    try with_reducible rfl
  simp only [Act.put, List.getElem_toArray, List.getElem_cons_zero, List.getElem_cons_succ, List.setIfInBounds_toArray, List.set_cons_zero, List.set_cons_succ]
  refine wpAnyH_take (i := 3) (v := ?_) rfl (by kernel_rfl) (by kernel_rfl) (by kernel_rfl) (fun _ _ _ h => h) (Or.inl ⟨by rfl, ?_⟩) (by assumption) ?_
  rotate_left
  · intro w hSw
    go_simp
    try with_reducible rfl
  simp only [Act.put, List.getElem_toArray, List.getElem_cons_zero, List.getElem_cons_succ, List.setIfInBounds_toArray, List.set_cons_zero, List.set_cons_succ]
  refine wpAnyH_take (i := 4) (v := ?_) rfl (by kernel_rfl) (by kernel_rfl) (by kernel_rfl) (fun _ _ _ h => h) (Or.inl ⟨by rfl, ?_⟩) (by assumption) ?_
  rotate_left
  · intro w hSw
    go_simp
    try with_reducible rfl
  simp only [Act.put, List.getElem_toArray, List.getElem_cons_zero, List.getElem_cons_succ, List.setIfInBounds_toArray, List.set_cons_zero, List.set_cons_succ]
  refine wpAnyH_take (i := 5) (v := ?_) rfl (by kernel_rfl) (by kernel_rfl) (by kernel_rfl) (fun _ _ _ h => h) (Or.inl ⟨by rfl, ?_⟩) (by assumption) ?_
  rotate_left
  · intro w hSw
    go_simp
    try with_reducible rfl
  simp only [Act.put, List.getElem_toArray, List.getElem_cons_zero, List.getElem_cons_succ, List.setIfInBounds_toArray, List.set_cons_zero, List.set_cons_succ]
  refine wpAnyH_take (i := 7) (v := ?_) rfl (by kernel_rfl) (by kernel_rfl) (by kernel_rfl) (fun _ _ _ h => h) (Or.inl ⟨by rfl, ?_⟩) (by assumption) ?_
  rotate_left
  · intro w hSw
    go_simp
    try with_reducible rfl
  simp only [Act.put, List.getElem_toArray, List.getElem_cons_zero, List.getElem_cons_succ, List.setIfInBounds_toArray, List.set_cons_zero, List.set_cons_succ]
  refine wpAnyH_take (i := 8) (v := ?_) rfl (by kernel_rfl) (by kernel_rfl) (by kernel_rfl) (fun _ _ _ h => h) (Or.inl ⟨by rfl, ?_⟩) (by assumption) ?_
  rotate_left
  · intro w hSw
    go_simp
    try with_reducible rfl
  simp only [Act.put, List.getElem_toArray, List.getElem_cons_zero, List.getElem_cons_succ, List.setIfInBounds_toArray, List.set_cons_zero, List.set_cons_succ]
  refine wpAnyH_take (i := 9) (v := ?_) rfl (by kernel_rfl) (by kernel_rfl) (by kernel_rfl) (fun _ _ _ h => h) (Or.inl ⟨by rfl, ?_⟩) (by assumption) ?_
  rotate_left
  · intro w hSw
    go_simp
    try with_reducible rfl
  simp only [Act.put, List.getElem_toArray, List.getElem_cons_zero, List.getElem_cons_succ, List.setIfInBounds_toArray, List.set_cons_zero, List.set_cons_succ]
  refine wpAnyH_take (i := 10) (v := ?_) rfl (by kernel_rfl) (by kernel_rfl) (by kernel_rfl) (fun _ _ _ h => h) (Or.inl ⟨by rfl, ?_⟩) (by assumption) ?_
  rotate_left
  · intro w hSw
    go_simp
    try with_reducible rfl
  simp only [Act.put, List.getElem_toArray, List.getElem_cons_zero, List.getElem_cons_succ, List.setIfInBounds_toArray, List.set_cons_zero, List.set_cons_succ]
  refine wpAnyH_take (i := 11) (v := ?_) rfl (by kernel_rfl) (by kernel_rfl) (by kernel_rfl) (fun _ _ _ h => h) (Or.inl ⟨by rfl, ?_⟩) (by assumption) ?_
  rotate_left
  · intro w hSw
    go_simp
    try with_reducible rfl
  simp only [Act.put, List.getElem_toArray, List.getElem_cons_zero, List.getElem_cons_succ, List.setIfInBounds_toArray, List.set_cons_zero, List.set_cons_succ]
  refine wpAnyH_take (i := 12) (v := ?_) rfl (by kernel_rfl) (by kernel_rfl) (by kernel_rfl) (fun _ _ _ h => h) (Or.inl ⟨by rfl, ?_⟩) (by assumption) ?_
  rotate_left
  · intro w hSw
    go_simp
    try with_reducible rfl
  simp only [Act.put, List.getElem_toArray, List.getElem_cons_zero, List.getElem_cons_succ, List.setIfInBounds_toArray, List.set_cons_zero, List.set_cons_succ]
  refine wpAnyH_ready (rs := [6]) (by kernel_rfl) (by simp) ?_
  refine AllReadyH.cons rfl (fun K hK => ?_) AllReadyH.nil
  go_simp
  refine (C1.out _ H.out.drew).mono ?_
  rintro e w9 ⟨rfl, bb⟩
  refine hK.out _ _ (held_rows (H.out.drew.below bb) (blk_on (show V.drew.heap[w.heap.size]? = some _ from G.out) bb)) (fun hHeld => ?_)
  clear hK K 
  have H1 := aside (H.out.drew.below bb)
  have G1 := aside (blk_on (show V.drew.heap[w.heap.size]? = some _ from G.out) bb)
  have B1 := aside (bthen B0.out.drew bb)
  clear bb
  refine wpAnyH_ready (rs := [13]) (by kernel_rfl) (by simp) ?_
  refine AllReadyH.cons rfl (fun K hK => ?_) AllReadyH.nil
  go_simp
  refine (C2.out _ H1.out).mono ?_
  rintro e w8 ⟨rfl, bb⟩
  refine hK.out _ _ (held_rows (H1.out.below bb) (blk_on G1.out bb)) (fun hHeld => ?_)
  clear hK K 
  have B2 := aside (bthen B1.out bb)
  clear bb
  refine wpAnyH_take (i := 14) (v := ?_) rfl (by kernel_rfl) (by kernel_rfl) (by kernel_rfl) (fun _ _ _ h => h) (Or.inl ⟨by rfl, ?_⟩) (by assumption) ?_
  rotate_left
  · intro w hSw
    go_simp
    try with_reducible rfl
  simp only [Act.put, List.getElem_toArray, List.getElem_cons_zero, List.getElem_cons_succ, List.setIfInBounds_toArray, List.set_cons_zero, List.set_cons_succ]
  refine wpAnyH_take (i := 15) (v := ?_) rfl (by kernel_rfl) (by kernel_rfl) (by kernel_rfl) (fun _ _ _ h => h) (Or.inl ⟨by rfl, ?_⟩) (by assumption) ?_
  rotate_left
  · intro w hSw
    go_simp
    try with_reducible rfl
  simp only [Act.put, List.getElem_toArray, List.getElem_cons_zero, List.getElem_cons_succ, List.setIfInBounds_toArray, List.set_cons_zero, List.set_cons_succ]
  refine wpAnyH_done (by kernel_rfl) ?_ _
  go_wp2
  refine bodyPost_ret (v := .tuple #[.int .i64 a, .int .i64 b]) (by simp [results, Tryd.results80, go_sem]) rfl ⟨rfl, B2.out⟩
theorem srows (lo hi : ByteArray) (op : Bool) {Ls : List En} {w : World} {sb g tb : Nat} {nd ck : Int} {T : Tr En Tl} {n : Nat} (h : IsSt w sb g tb nd ck T n) (hH : Hol T Ls) (hl : Ls.length ≤ 1000000) :
    Calls Tryd.prog 80 #[.pointer (some ⟨sb, 0, none⟩), .agg #[.string lo, .string hi, .bool op]] w fun r w' => r = .returned (.tuple #[.int .i64 (belE lo Ls : Int), .int .i64 (endE hi op Ls : Int)]) ∧ Below w.heap.size w w' := by
  cases op
  · exact srowsC lo hi h hH hl
  · exact srowsO lo hi h hH hl
/-- What Fold answers. -/
def foldV (lo hi : ByteArray) (op : Bool) (Ls : List En) : Tl := if Rg.chk ⟨lo, hi, op⟩ = 0 then talL (Ls.filter (inR lo hi op)) else tZero
theorem chk_may {lo hi : ByteArray} {op : Bool} (h : Rg.chk ⟨lo, hi, op⟩ = 0) : op = true ∨ kLt hi lo = false := by
  cases op with
  | true => exact .inl rfl
  | false =>
    refine .inr ?_
    unfold Rg.chk at h
    split at h
    · cases h
    · split at h
      · cases h
      · rename_i h2
        cases h3 : Op.bytesLess lo.toList hi.toList
        · cases h4 : (lo.toList == hi.toList)
          · simp [h3, h4] at h2
          · rw [toList_inj (beq_iff_eq.1 h4)]
            exact kLt_irrefl _
        · exact kLt_asymm h3
theorem fold_end {w X : World} {sb g tb m : Nat} {nd ck : Int} {T : Tr En Tl} {n : Nat} (h : IsSt X sb g tb nd ck T n) (k : Keeps (Of sb g tb) w X) (hb : X.heap[w.heap.size + 1]? = some (.cells #[.int .i64 0, .int .u64 0, .int .u64 0] 97 (0, 0))) (y : Tl) : IsSt (set3 X (w.heap.size + 1) y) sb g tb nd ck T n ∧ Keeps (Of sb g tb) w (set3 X (w.heap.size + 1) y) := by
  have hn := h.not hb (by decide) (by decide) (by decide)
  obtain ⟨p, ht, hT⟩ := h.tree
  refine ⟨⟨(set3_other _ _ _ _ (fun e => hn (.inl e.symm))).trans h.blk, h.cnt.set3 (fun e => hn (.inr (.inr (Option.some.inj e).symm))) y, ⟨p, (set3_other _ _ _ _ (fun e => hn (.inr (.inl e.symm)))).trans ht, hT.on ((Stay.refl _ X).set3 hb (by decide) y)⟩⟩, k.set3 (fun e => by omega) y⟩
set_option maxHeartbeats 3200000 in
set_option maxRecDepth 100000 in
theorem sfold (lo hi : ByteArray) (op : Bool) {Ls : List En} {w : World} {sb g tb : Nat} {nd ck : Int} {T : Tr En Tl} {n : Nat} (h : IsSt w sb g tb nd ck T n) (hH : Hol T Ls) (hl : Ls.length ≤ 1000000) :
    Calls Tryd.prog 51 #[.pointer (some ⟨sb, 0, none⟩), .agg #[.string lo, .string hi, .bool op]] w fun r w' => r = .returned (.tuple #[.agg #[.int .i64 (foldV lo hi op Ls).n, .int .u64 (foldV lo hi op Ls).a, .int .u64 (foldV lo hi op Ls).b], .int .i64 (Rg.chk ⟨lo, hi, op⟩)]) ∧ (∃ d, d ≤ 4 * T.ht ∧ IsSt w' sb g tb nd ck T (n + d)) ∧ Keeps (Of sb g tb) w w' := by
  have b0 := bnew w (.cells #[.string lo, .string hi, .bool op] 51)
  have b1 := bnew (w.alloc (.cells #[.string lo, .string hi, .bool op] 51)) (.cells #[.int .i64 0, .int .u64 0, .int .u64 0] 97)
  have B := aside (bthen b0 b1)
  have G0 := aside (blk_on (heap_alloc_new w (.cells #[.string lo, .string hi, .bool op] 51)) b1)
  have g1 := heap_alloc_new (w.alloc (.cells #[.string lo, .string hi, .bool op] 51)) (.cells #[.int .i64 0, .int .u64 0, .int .u64 0] 97)
  simp only [World.size_alloc] at g1
  have G1 := aside g1
  have H := aside (h.below B.out)
  have C1 := aside (fun (W : World) => check_any lo hi op W)
  have CR := aside (fun (W : World) (h : IsSt W sb g tb nd ck T n) => srows lo hi op h hH hl)
  have CF := aside (fun (W : World) (h : IsSt W sb g tb nd ck T n) => yfoldE (belE lo Ls : Int) (endE hi op Ls : Int) h.tree (bothJv g) h.cnt hH.gd (by omega))
  have HD := aside (Tr.folC_le T (belE lo Ls : Int) (endE hi op Ls : Int))
  have HV : Hid (Rg.chk ⟨lo, hi, op⟩ = 0 → Tr.fol tJoin tZero T (belE lo Ls : Int) (endE hi op Ls : Int) = foldV lo hi op Ls) := fun h0 => by
    unfold foldV
    rw [if_pos h0, hH.fold _ _ (endE_le _ _ _), seg_range hH.rises (chk_may h0)]
  have HZ : Hid (Rg.chk ⟨lo, hi, op⟩ ≠ 0 → foldV lo hi op Ls = tZero) := fun h0 => by unfold foldV; rw [if_neg h0]
  obtain ⟨c, hc⟩ : ∃ c, Rg.chk ⟨lo, hi, op⟩ = c := ⟨_, rfl⟩
  rw [hc] at C1 HV HZ ⊢
  generalize Tr.folC T (belE lo Ls : Int) (endE hi op Ls : Int) = d at *
  generalize Tr.fol tJoin tZero T (belE lo Ls : Int) (endE hi op Ls : Int) = fv at *
  generalize foldV lo hi op Ls = rv at *
  generalize (belE lo Ls : Int) = a at *
  generalize (endE hi op Ls : Int) = b at *
  clear h hH hl hc b0 b1 g1
  obtain ⟨q0, q1, q2, -⟩ := tri G0.out
  by_cases h0 : c = 0
  · have hrv := HV.out h0
    subst hrv
    subst h0
    go_enter Tryd.func51, Tryd.ntmps51
    go_wp2_with fail
    refine (C1.out _).mono ?_
    rintro e w1 ⟨rfl, b1⟩
    have H1 := aside (H.out.below b1)
    have G1' := aside (blk_on G1.out b1)
    have B1 := aside (bthen B.out b1)
    obtain ⟨r0, r1, r2, -⟩ := tri (blk_on G0.out b1)
    clear b1 H G1 G0 B C1 q0 q1 q2
    go_wp2_with fail
    refine (CR.out _ H1.out).mono ?_
    rintro e w2 ⟨rfl, b2⟩
    have H2 := aside (H1.out.below b2)
    have G2 := aside (blk_on G1'.out b2)
    have B2 := aside (bthen B1.out b2)
    obtain ⟨-, -, -, c3, -⟩ := quad H2.out.blk
    clear b2 H1 G1' B1 CR r0 r1 r2
    go_wp2_with fail
    refine (CF.out _ H2.out).mono ?_
    rintro e w3 ⟨rfl, hc3, k3⟩
    have H3 : Hid (IsSt w3 sb g tb nd ck T (n + d)) := ⟨blk_keep H2.out.blk k3 (fun e => H2.out.apart.1 (Option.some.inj e).symm), hc3, H2.out.tree.onC H2.out.cnt k3⟩
    have G3 := aside (blk_keep G2.out k3 (fun e => H2.out.not G2.out (by decide) (by decide) (by decide) (.inr (.inr (Option.some.inj e).symm))))
    have K3 := aside ((Keeps.of_below B2.out (Of sb g tb)).trans (k3.mono (fun _ _ e => .inr (.inr (Option.some.inj e).symm))))
    clear hc3 k3 c3 CF H2 G2 B2
    obtain ⟨s0, s1, s2, z0, z1, z2⟩ := tri G3.out
    have E := aside (fold_end (m := 0) H3.out K3.out G3.out fv)
    unfold set3 at E
    go_wp2
    exact bodyPost_ret (v := .tuple #[.agg #[.int .i64 fv.n, .int .u64 fv.a, .int .u64 fv.b], .int .i64 0]) (by simp [results, Tryd.results51, go_sem, s0, s1, s2]) rfl ⟨rfl, ⟨d, HD.out, E.out.1⟩, E.out.2⟩
  · have hz := HZ.out h0
    have h0' : (c == 0) = false := beq_eq_false_iff_ne.2 h0
    subst hz
    rw [tZero_n, tZero_a, tZero_b]
    go_enter Tryd.func51, Tryd.ntmps51
    go_wp2_with fail
    refine (C1.out _).mono ?_
    rintro e w1 ⟨rfl, b1⟩
    have H1 := aside (H.out.below b1)
    have G1' := aside (blk_on G1.out b1)
    have B1 := aside (bthen B.out b1)
    obtain ⟨s0, s1, s2, z0, z1, z2⟩ := tri G1'.out
    have E := aside (fold_end (m := 0) H1.out (Keeps.of_below B1.out _) G1'.out tZero)
    unfold set3 at E
    rw [tZero_n, tZero_a, tZero_b] at E
    clear b1 H G1 G0 B C1 q0 q1 q2
    go_wp2
    exact bodyPost_ret (v := .tuple #[.agg #[.int .i64 0, .int .u64 0, .int .u64 0], .int .i64 c]) (by simp [results, Tryd.results51, go_sem, s0, s1, s2]) rfl ⟨rfl, ⟨0, Nat.zero_le _, E.out.1⟩, E.out.2⟩
end Go.Proofs.YtlbkcndmljlnmaaDoor
namespace Go.Proofs.YtlbkcndmljlnmaaDoor
open Go.RowKit
theorem nx_bad {clock node : Int} (h : node < 0 ∨ 8 ≤ node ∨ clock < 0 ∨ 1099511627776 < clock) : Vs.nx clock node = (0, 0, 30) := by unfold Vs.nx; rw [if_pos h]
theorem nx_worn {clock node : Int} (h : ¬ (node < 0 ∨ 8 ≤ node ∨ clock < 0 ∨ 1099511627776 < clock)) (h2 : clock = 1099511627776) : Vs.nx clock node = (0, 0, 33) := by unfold Vs.nx; rw [if_neg h, if_pos h2]
theorem nx_ok {clock node : Int} (h : ¬ (node < 0 ∨ 8 ≤ node ∨ clock < 0 ∨ 1099511627776 < clock)) (h2 : clock ≠ 1099511627776) : Vs.nx clock node = (clock + 1, node, 0) := by unfold Vs.nx; rw [if_neg h, if_neg h2]
theorem ret_nx {r s : Int × Int × Int} (h : r = s) : Ending.returned (Vs.nxV r) = .returned (Vs.nxV s) := by rw [h]
set_option maxHeartbeats 1600000 in
theorem next_any (clock node : Int) (w : World) : Calls Tryd.prog 78 #[.int .i64 clock, .int .i64 node] w fun e w' => e = .returned (Vs.nxV (Vs.nx clock node)) ∧ Below w.heap.size w w' := by
  by_cases h3 : node < 0
  · go_enter Tryd.func78, Tryd.ntmps78
    go_wp2_with (go_at_call 86; refine (isNode_at (node_no1 h3) _).mono ?_; rintro e w1 ⟨rfl, rfl⟩)
    refine bodyPost_ret (v := .tuple #[.agg #[.int .i64 0, .int .i64 0], .int .i64 30]) (by simp [results, Tryd.results78, go_sem]) rfl ⟨ret_nx (nx_bad (by omega)).symm, ?_⟩
    exact bnew w _
  by_cases h4 : 8 ≤ node
  · go_enter Tryd.func78, Tryd.ntmps78
    go_wp2_with (go_at_call 86; refine (isNode_at (node_no2 h4) _).mono ?_; rintro e w1 ⟨rfl, rfl⟩)
    refine bodyPost_ret (v := .tuple #[.agg #[.int .i64 0, .int .i64 0], .int .i64 30]) (by simp [results, Tryd.results78, go_sem]) rfl ⟨ret_nx (nx_bad (by omega)).symm, ?_⟩
    exact bnew w _
  have hN := node_yes h3 h4
  by_cases h1 : clock < 0
  · go_enter Tryd.func78, Tryd.ntmps78
    go_wp2_with (go_at_call 86; refine (isNode_at hN _).mono ?_; rintro e w1 ⟨rfl, rfl⟩)
    refine bodyPost_ret (v := .tuple #[.agg #[.int .i64 0, .int .i64 0], .int .i64 30]) (by simp [results, Tryd.results78, go_sem]) rfl ⟨ret_nx (nx_bad (by omega)).symm, ?_⟩
    exact bnew w _
  by_cases h2 : 1099511627776 < clock
  · go_enter Tryd.func78, Tryd.ntmps78
    go_wp2_with (go_at_call 86; refine (isNode_at hN _).mono ?_; rintro e w1 ⟨rfl, rfl⟩)
    refine bodyPost_ret (v := .tuple #[.agg #[.int .i64 0, .int .i64 0], .int .i64 30]) (by simp [results, Tryd.results78, go_sem]) rfl ⟨ret_nx (nx_bad (by omega)).symm, ?_⟩
    exact bnew w _
  by_cases h5 : clock = 1099511627776
  · subst h5
    go_enter Tryd.func78, Tryd.ntmps78
    go_wp2_with (go_at_call 86; refine (isNode_at hN _).mono ?_; rintro e w1 ⟨rfl, rfl⟩)
    refine bodyPost_ret (v := .tuple #[.agg #[.int .i64 0, .int .i64 0], .int .i64 33]) (by simp [results, Tryd.results78, go_sem]) rfl ⟨ret_nx (nx_worn (by omega) rfl).symm, ?_⟩
    exact bnew w _
  · have h6 : clock ≤ 1099511627776 := by omega
    have h7 : 0 ≤ clock := by omega
    go_enter Tryd.func78, Tryd.ntmps78
    go_wp2_with (go_at_call 86; refine (isNode_at hN _).mono ?_; rintro e w1 ⟨rfl, rfl⟩)
    refine bodyPost_ret (v := .tuple #[.agg #[.int .i64 (clock + 1), .int .i64 node], .int .i64 0]) (by simp [results, Tryd.results78, go_sem]) rfl ⟨ret_nx (nx_ok (by omega) h5).symm, ?_⟩
    exact bnew w _
/-- Next, by its three numbers. -/
theorem next_at {clock node c n e : Int} (h : Vs.nx clock node = (c, n, e)) (w : World) : Calls Tryd.prog 78 #[.int .i64 clock, .int .i64 node] w fun r w' => r = .returned (.tuple #[.agg #[.int .i64 c, .int .i64 n], .int .i64 e]) ∧ Below w.heap.size w w' := by
  have := next_any clock node w
  rw [h] at this
  exact this
/-- The ways of Next. -/
theorem nx_cases (clock node : Int) : Vs.nx clock node = (0, 0, 30) ∨ Vs.nx clock node = (0, 0, 33) ∨ (Vs.nx clock node = (clock + 1, node, 0) ∧ 0 ≤ clock ∧ clock < 1099511627776 ∧ 0 ≤ node ∧ node < 8) := by
  by_cases h : node < 0 ∨ 8 ≤ node ∨ clock < 0 ∨ 1099511627776 < clock
  · exact .inl (nx_bad h)
  · by_cases h2 : clock = 1099511627776
    · exact .inr (.inl (nx_worn h h2))
    · exact .inr (.inr ⟨nx_ok h h2, by omega, by omega, by omega, by omega⟩)
end Go.Proofs.YtlbkcndmljlnmaaDoor

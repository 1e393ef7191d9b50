/-
  A step of the script: every answer is the document's.
-/
import Derived.Test.YtnlmlhoddchgbaaTrCalls
import Derived.Test.YtnlmlhoddchgbaaTrUtil
namespace Go.Proofs.Ytnlmlhoddchgbaa
open Go.RowKit
set_option linter.unusedVariables false

set_option maxHeartbeats 25600000 in
set_option maxRecDepth 100000 in
theorem does_any {w W : World} {wb ga ca gb cb n m : Nat} {P : Nat → Pairs} (h : WS w W wb ga ca gb cb P n m) (x : OpR) (hx : OpOk x) (hm : (m + 1) * 40 ≤ 140737488351232) :
    Calls Try.prog 10 #[.pointer (some ⟨wb, 0, none⟩), .agg #[.int .i64 x.kind, .int .i64 x.tree, .int .i64 x.i, .int .i64 x.j, .int .i64 x.v, .string x.key, .int .u64 x.s.a, .int .u64 x.s.b]] W fun e w' => e = .returned (.bool true) ∧ ∃ ga ca gb cb P n, WS w w' wb ga ca gb cb P n (m + 1) := by
  have HX := aside hx
  have HM := aside hm
  have D0 := aside (⟨h.on (bnew W _), heap_alloc_new W _⟩ : DS w (W.alloc (.cells #[.int .i64 x.kind, .int .i64 x.tree, .int .i64 x.i, .int .i64 x.j, .int .i64 x.v, .string x.key, .int .u64 x.s.a, .int .u64 x.s.b] 30)) wb ga ca gb cb W.heap.size P n m x)
  have N1 := aside h.n1
  have hn4 := h.n4
  have hca := (row_blk h.rowA).1
  have hcb := (row_blk h.rowB).1
  clear h hx hm
  go_enter Try.func10, Try.ntmps10
  go_wp2_with fail
  generalize W.alloc (.cells #[.int .i64 x.kind, .int .i64 x.tree, .int .i64 x.i, .int .i64 x.j, .int .i64 x.v, .string x.key, .int .u64 x.s.a, .int .u64 x.s.b] 30) = V at *
  generalize W.heap.size = gx at *
  refine wp_region_held_drew (S := fun X => X.cell? ⟨gx, 1, none⟩ = some (.int .i64 x.tree) ∧ X.cell? ⟨wb, 0, none⟩ = some (.slice (some ⟨ga, 0, none⟩) n ca) ∧ Hid (DS w X wb ga ca gb cb gx P n m x)) (by kernel_rfl) ⟨(opBox D0.out.box).2.1, (D0.out.ws.cells (k := 0) N1.out).1, aside (D0.out.on ((Below.refl _ V).drew))⟩ (fun hHeld => ?_)
  refine wpAnyH_take (i := 0) (v := ?_) rfl (by kernel_rfl) (by kernel_rfl) (by kernel_rfl) (fun _ _ _ h => h) (Or.inl ⟨by rfl, ?_⟩) (by assumption) ?_
  rotate_left
  · intro w hSw
    go_simp
    try with_reducible rfl
  simp only [Act.put, List.getElem_toArray, List.getElem_cons_zero, List.setIfInBounds_toArray, List.set_cons_zero, List.set_cons_succ]
  refine wpAnyH_take (i := 1) (v := ?_) rfl (by kernel_rfl) (by kernel_rfl) (by kernel_rfl) (fun _ _ _ h => h) (Or.inl ⟨by rfl, ?_⟩) (by assumption) ?_
  rotate_left
  · intro w hSw
    go_simp
    try with_reducible rfl
  simp only [Act.put, List.getElem_toArray, List.getElem_cons_zero, List.getElem_cons_succ, List.setIfInBounds_toArray, List.set_cons_zero, List.set_cons_succ]
  refine wpAnyH_take (i := 2) (v := ?_) rfl (by kernel_rfl) (by kernel_rfl) (by kernel_rfl) (fun _ _ _ h => h) (Or.inl ⟨by rfl, ?_⟩) (by assumption) ?_
  rotate_left
  · intro w hSw
    go_simp
    try with_reducible rfl
  simp only [Act.put, List.getElem_toArray, List.getElem_cons_zero, List.getElem_cons_succ, List.setIfInBounds_toArray, List.set_cons_zero, List.set_cons_succ]
  refine wpAnyH_take (i := 3) (v := ?_) rfl (by kernel_rfl) (by kernel_rfl) (by kernel_rfl) (fun _ _ _ h => h) (Or.inl ⟨by rfl, ?_⟩) (by assumption) ?_
  rotate_left
  · intro w hSw
    go_simp
    try with_reducible rfl
  simp only [Act.put, List.getElem_toArray, List.getElem_cons_zero, List.getElem_cons_succ, List.setIfInBounds_toArray, List.set_cons_zero, List.set_cons_succ]
  refine wpAnyH_take (i := 4) (v := ?_) rfl (by kernel_rfl) (by kernel_rfl) (by kernel_rfl) (fun _ _ _ h => h) (Or.inl ⟨by rfl, ?_⟩) (by assumption) ?_
  rotate_left
  · intro w hSw
    go_simp
    try with_reducible rfl
  simp only [Act.put, List.getElem_toArray, List.getElem_cons_zero, List.getElem_cons_succ, List.setIfInBounds_toArray, List.set_cons_zero, List.set_cons_succ]
  refine wpAnyH_take (i := 5) (v := ?_) rfl (by kernel_rfl) (by kernel_rfl) (by kernel_rfl) (fun _ _ _ h => h) (Or.inl ⟨by rfl, ?_⟩) (by assumption) ?_
  rotate_left
  · intro w hSw
    go_simp
    try with_reducible rfl
  simp only [Act.put, List.getElem_toArray, List.getElem_cons_zero, List.getElem_cons_succ, List.setIfInBounds_toArray, List.set_cons_zero, List.set_cons_succ]
  refine wpAnyH_take (i := 6) (v := ?_) rfl (by kernel_rfl) (by kernel_rfl) (by kernel_rfl) (fun _ _ _ h => h) (Or.inl ⟨by rfl, ?_⟩) (by assumption) ?_
  rotate_left
  · intro w hSw
    go_simp
    try with_reducible rfl
  simp only [Act.put, List.getElem_toArray, List.getElem_cons_zero, List.getElem_cons_succ, List.setIfInBounds_toArray, List.set_cons_zero, List.set_cons_succ]
  refine wpAnyH_ready (rs := [7]) (by kernel_rfl) (by simp) ?_
  refine AllReadyH.cons rfl (fun K hK => ?_) AllReadyH.nil
  go_simp
  refine (among_any x.tree (n : Int) _ HX.out.2.1.1 HX.out.2.1.2 (by omega)).mono ?_
  rintro e w9 ⟨rfl, rfl⟩
  refine hK.out _ _ (hHeld) (fun hHeld => ?_)
  clear hK K 
  refine wpAnyH_take (i := 8) (v := ?_) rfl (by kernel_rfl) (by kernel_rfl) (by kernel_rfl) (fun _ _ _ h => h) (Or.inl ⟨by rfl, ?_⟩) (by assumption) ?_
  rotate_left
  · intro w hSw
    go_simp
    try with_reducible rfl
  simp only [Act.put, List.getElem_toArray, List.getElem_cons_zero, List.getElem_cons_succ, List.setIfInBounds_toArray, List.set_cons_zero, List.set_cons_succ]
  refine wpAnyH_done (by kernel_rfl) ?_ _
  have D1 := aside hHeld.2.2.out
  have hk := amongI_lt (i := x.tree) (n := (n : Int)) (by have := N1.out; omega)
  obtain ⟨k, hk2⟩ : ∃ k : Nat, amongI x.tree (n : Int) = (k : Int) := ⟨(amongI x.tree (n : Int)).toNat, by omega⟩
  rw [hk2] at hk
  rw [hk2]
  have HK := aside (show k < n from by omega)
  have hk0 : (0 : Int) ≤ (k : Int) := hk.1
  have hkn : (k : Int) < (n : Int) := hk.2
  have hkn2 : k < n := HK.out
  clear hk hk2 hHeld D0
  generalize V.drew = V1 at *
  go_wp2_with fail
  refine wp_region_held_drew (S := fun X => X.cell? ⟨wb, 0, none⟩ = some (.slice (some ⟨ga, 0, none⟩) n ca) ∧ X.cell? ⟨wb, 1, none⟩ = some (.slice (some ⟨gb, 0, none⟩) n cb) ∧ X.cell? ⟨ga, k, none⟩ = some (.pointer (some ⟨(P k).tb, 0, none⟩)) ∧ X.cell? ⟨gb, k, none⟩ = some (.pointer (some ⟨(P k).rb, 0, none⟩)) ∧ Hid (DS w X wb ga ca gb cb gx P n m x)) (by kernel_rfl) ⟨(D1.out.ws.cells HK.out).1, (D1.out.ws.cells HK.out).2.1, (D1.out.ws.cells HK.out).2.2.1, (D1.out.ws.cells HK.out).2.2.2, aside (D1.out.on ((Below.refl _ V1).drew))⟩ (fun hHeld => ?_)
  refine wpAnyH_take (i := 0) (v := ?_) rfl (by kernel_rfl) (by kernel_rfl) (by kernel_rfl) (fun _ _ _ h => h) (Or.inl ⟨by rfl, ?_⟩) (by assumption) ?_
  rotate_left
  · intro w hSw
    go_simp
    try with_reducible rfl
  simp only [Act.put, List.getElem_toArray, List.getElem_cons_zero, List.setIfInBounds_toArray, List.set_cons_zero, List.set_cons_succ]
  refine wpAnyH_take (i := 1) (v := ?_) rfl (by kernel_rfl) (by kernel_rfl) (by kernel_rfl) (fun _ _ _ h => h) (Or.inl ⟨by rfl, ?_⟩) (by assumption) ?_
  rotate_left
  · intro w hSw
    go_simp
    try with_reducible rfl
  simp only [Act.put, List.getElem_toArray, List.getElem_cons_zero, List.getElem_cons_succ, List.setIfInBounds_toArray, List.set_cons_zero, List.set_cons_succ]
  refine wpAnyH_take (i := 2) (v := ?_) rfl (by kernel_rfl) (by kernel_rfl) (by kernel_rfl) (fun _ _ _ h => h) (Or.inl ⟨by rfl, ?_⟩) (by assumption) ?_
  rotate_left
  · intro w hSw
    go_simp
    try with_reducible rfl
  simp only [Act.put, List.getElem_toArray, List.getElem_cons_zero, List.getElem_cons_succ, List.setIfInBounds_toArray, List.set_cons_zero, List.set_cons_succ]
  refine wpAnyH_take (i := 3) (v := ?_) rfl (by kernel_rfl) (by kernel_rfl) (by kernel_rfl) (fun _ _ _ h => h) (Or.inl ⟨by rfl, ?_⟩) (by assumption) ?_
  rotate_left
  · intro w hSw
    go_simp
    try with_reducible rfl
  simp only [Act.put, List.getElem_toArray, List.getElem_cons_zero, List.getElem_cons_succ, List.setIfInBounds_toArray, List.set_cons_zero, List.set_cons_succ]
  refine wpAnyH_take (i := 4) (v := ?_) rfl (by kernel_rfl) (by kernel_rfl) (by kernel_rfl) (fun _ _ _ h => h) (Or.inl ⟨by rfl, ?_⟩) (by assumption) ?_
  rotate_left
  · intro w hSw
    go_simp
    try with_reducible rfl
  simp only [Act.put, List.getElem_toArray, List.getElem_cons_zero, List.getElem_cons_succ, List.setIfInBounds_toArray, List.set_cons_zero, List.set_cons_succ]
  refine wpAnyH_take (i := 5) (v := ?_) rfl (by kernel_rfl) (by kernel_rfl) (by kernel_rfl) (fun _ _ _ h => h) (Or.inl ⟨by rfl, ?_⟩) (by assumption) ?_
  rotate_left
  · intro w hSw
    go_simp
    try with_reducible rfl
  simp only [Act.put, List.getElem_toArray, List.getElem_cons_zero, List.getElem_cons_succ, List.setIfInBounds_toArray, List.set_cons_zero, List.set_cons_succ]
  refine wpAnyH_take (i := 6) (v := ?_) rfl (by kernel_rfl) (by kernel_rfl) (by kernel_rfl) (fun _ _ _ h => h) (Or.inl ⟨by rfl, ?_⟩) (by assumption) ?_
  rotate_left
  · intro w hSw
    go_simp
    try with_reducible rfl
  simp only [Act.put, List.getElem_toArray, List.getElem_cons_zero, List.getElem_cons_succ, List.setIfInBounds_toArray, List.set_cons_zero, List.set_cons_succ]
  refine wpAnyH_take (i := 7) (v := ?_) rfl (by kernel_rfl) (by kernel_rfl) (by kernel_rfl) (fun _ _ _ h => h) (Or.inl ⟨by rfl, ?_⟩) (by assumption) ?_
  rotate_left
  · intro w hSw
    go_simp
    try with_reducible rfl
  simp only [Act.put, List.getElem_toArray, List.getElem_cons_zero, List.getElem_cons_succ, List.setIfInBounds_toArray, List.set_cons_zero, List.set_cons_succ]
  refine wpAnyH_take (i := 8) (v := ?_) rfl (by kernel_rfl) (by kernel_rfl) (by kernel_rfl) (fun _ _ _ h => h) (Or.inl ⟨by rfl, ?_⟩) (by assumption) ?_
  rotate_left
  · intro w hSw
    go_simp
    try with_reducible rfl
  simp only [Act.put, List.getElem_toArray, List.getElem_cons_zero, List.getElem_cons_succ, List.setIfInBounds_toArray, List.set_cons_zero, List.set_cons_succ]
  refine wpAnyH_take (i := 9) (v := ?_) rfl (by kernel_rfl) (by kernel_rfl) (by kernel_rfl) (fun _ _ _ h => h) (Or.inl ⟨by rfl, ?_⟩) (by assumption) ?_
  rotate_left
  · intro w hSw
    go_simp
    try with_reducible rfl
  simp only [Act.put, List.getElem_toArray, List.getElem_cons_zero, List.getElem_cons_succ, List.setIfInBounds_toArray, List.set_cons_zero, List.set_cons_succ]
  refine wpAnyH_take (i := 10) (v := ?_) rfl (by kernel_rfl) (by kernel_rfl) (by kernel_rfl) (fun _ _ _ h => h) (Or.inl ⟨by rfl, ?_⟩) (by assumption) ?_
  rotate_left
  · intro w hSw
    go_simp
    try with_reducible rfl
  simp only [Act.put, List.getElem_toArray, List.getElem_cons_zero, List.getElem_cons_succ, List.setIfInBounds_toArray, List.set_cons_zero, List.set_cons_succ]
  refine wpAnyH_take (i := 11) (v := ?_) rfl (by kernel_rfl) (by kernel_rfl) (by kernel_rfl) (fun _ _ _ h => h) (Or.inl ⟨by rfl, ?_⟩) (by assumption) ?_
  rotate_left
  · intro w hSw
    go_simp
    try with_reducible rfl
  simp only [Act.put, List.getElem_toArray, List.getElem_cons_zero, List.getElem_cons_succ, List.setIfInBounds_toArray, List.set_cons_zero, List.set_cons_succ]
  refine wpAnyH_take (i := 12) (v := ?_) rfl (by kernel_rfl) (by kernel_rfl) (by kernel_rfl) (fun _ _ _ h => h) (Or.inl ⟨by rfl, ?_⟩) (by assumption) ?_
  rotate_left
  · intro w hSw
    go_simp
    try with_reducible rfl
  simp only [Act.put, List.getElem_toArray, List.getElem_cons_zero, List.getElem_cons_succ, List.setIfInBounds_toArray, List.set_cons_zero, List.set_cons_succ]
  refine wpAnyH_take (i := 13) (v := ?_) rfl (by kernel_rfl) (by kernel_rfl) (by kernel_rfl) (fun _ _ _ h => h) (Or.inl ⟨by rfl, ?_⟩) (by assumption) ?_
  rotate_left
  · intro w hSw
    go_simp
    try with_reducible rfl
  simp only [Act.put, List.getElem_toArray, List.getElem_cons_zero, List.getElem_cons_succ, List.setIfInBounds_toArray, List.set_cons_zero, List.set_cons_succ]
  refine wpAnyH_take (i := 14) (v := ?_) rfl (by kernel_rfl) (by kernel_rfl) (by kernel_rfl) (fun _ _ _ h => h) (Or.inl ⟨by rfl, ?_⟩) (by assumption) ?_
  rotate_left
  · intro w hSw
    go_simp
    try with_reducible rfl
  simp only [Act.put, List.getElem_toArray, List.getElem_cons_zero, List.getElem_cons_succ, List.setIfInBounds_toArray, List.set_cons_zero, List.set_cons_succ]
  refine wpAnyH_take (i := 15) (v := ?_) rfl (by kernel_rfl) (by kernel_rfl) (by kernel_rfl) (fun _ _ _ h => h) (Or.inl ⟨by rfl, ?_⟩) (by assumption) ?_
  rotate_left
  · intro w hSw
    go_simp
    try with_reducible rfl
  simp only [Act.put, List.getElem_toArray, List.getElem_cons_zero, List.getElem_cons_succ, List.setIfInBounds_toArray, List.set_cons_zero, List.set_cons_succ]
  refine wpAnyH_done (by kernel_rfl) ?_ _
  have D2 := aside hHeld.2.2.2.2.out
  clear hHeld D1
  generalize V1.drew = V2 at *
  obtain ⟨b0, b1, b2, b3, b4, b5, b6, b7⟩ := opBox D2.out.box
  go_wp2_with fail
  refine (among_any x.kind 6 _ HX.out.1.1 HX.out.1.2 (by decide)).mono ?_
  rintro e w4 ⟨rfl, rfl⟩
  have hr := amongI_lt (i := x.kind) (n := 6) (by decide)
  generalize amongI x.kind 6 = r at *
  have hcase : r = 0 ∨ r = 1 ∨ r = 2 ∨ r = 3 ∨ r = 4 ∨ r = 5 := by omega
  have PK := aside ((D2.out.ws.prs k HK.out).1)
  have MS := aside (show m ≤ 281474976710655 from by have := HM.out; omega)
  clear hr
  rcases hcase with rfl | rfl | rfl | rfl | rfl | rfl
  · go_wp2_with fail
    refine (pPutA x.key x.v x.s PK.out (by have := HM.out; omega)).mono ?_
    rintro e w5 ⟨rfl, p5⟩
    have Q5 := aside p5
    have X5 := aside (show w5.heap[gx]? = _ from blk_keep D2.out.box p5.keeps (fun e => by obtain ⟨ct, ht⟩ := PK.out.tree.blk; exact ty_ne D2.out.box ht (by decide) e))
    clear p5 b0 b1 b2 b3 b4 b5 b6 b7
    obtain ⟨b0, b1, b2, b3, b4, b5, b6, b7⟩ := opBox X5.out
    go_wp2_with fail
    refine (rput_any x.key x.v x.s Q5.out.ref HX.out.2.2.2.2 (by have := HM.out; have := PK.out.len; omega)).mono ?_
    rintro e w6 ⟨rfl, r6, k6⟩
    have B6 := aside (put_both PK.out x.key x.v x.s Q5.out r6 k6)
    have R6 := aside r6
    have W6 := aside (D2.out.ws.put HK.out B6.out.2 B6.out.1)
    clear r6 k6 b0 b1 b2 b3 b4 b5 b6 b7 Q5 X5
    generalize getV (look x.key (List.map rowOf (P k).l)) = G at *
    generalize (look x.key (List.map rowOf (P k).l)).isSome = bS at *
    go_wp2_with fail
    refine (pLen B6.out.1 (by have := HM.out; omega)).mono ?_
    rintro e w7 ⟨rfl, rfl⟩
    go_wp2_with fail
    refine (rlen_any R6.out).mono ?_
    rintro e w8 ⟨rfl, rfl⟩
    go_wp2
    go_ret
    exact ⟨rfl, _, _, _, _, _, _, W6.out⟩
  · go_wp2_with fail
    refine (pGet x.key PK.out MS.out).mono ?_
    rintro e w5 ⟨rfl, b5'⟩
    have D5 := aside (D2.out.on b5')
    clear b5' b0 b1 b2 b3 b4 b5 b6 b7
    obtain ⟨b0, b1, b2, b3, b4, b5, b6, b7⟩ := opBox D5.out.box
    go_wp2_with fail
    refine (rget_any x.key (D5.out.ws.prs k HK.out).1.ref).mono ?_
    rintro e w6 ⟨rfl, b6'⟩
    have D6 := aside (D5.out.on b6')
    clear b6' b0 b1 b2 b3 b4 b5 b6 b7 D5
    generalize getV (look x.key (List.map rowOf (P k).l)) = G at *
    generalize (look x.key (List.map rowOf (P k).l)).isSome = bS at *
    go_wp2
    go_ret
    exact ⟨rfl, _, _, _, _, _, _, D6.out.ws.up (Nat.le_succ m)⟩
  · clear b0 b1 b2 b3 b4 b6 b7
    go_wp2_with fail
    refine wp_region_held_drew (S := fun X => X.cell? ⟨gx, 5, none⟩ = some (.string x.key) ∧ Hid (DS w X wb ga ca gb cb gx P n m x)) (by kernel_rfl) ⟨b5, aside (D2.out.on ((Below.refl _ w4).drew))⟩ (fun hHeld => ?_)
    clear b5
    refine wpAnyH_take (i := 0) (v := ?_) rfl (by kernel_rfl) (by kernel_rfl) (by kernel_rfl) (fun _ _ _ h => h) (Or.inl ⟨by rfl, ?_⟩) (by assumption) ?_
    rotate_left
    · intro w hSw
      go_simp
      try with_reducible rfl
    simp only [Act.put, List.getElem_toArray, List.getElem_cons_zero, List.setIfInBounds_toArray, List.set_cons_zero, List.set_cons_succ]
    refine wpAnyH_take (i := 1) (v := ?_) rfl (by kernel_rfl) (by kernel_rfl) (by kernel_rfl) (fun _ _ _ h => h) (Or.inl ⟨by rfl, ?_⟩) (by assumption) ?_
    rotate_left
    · intro w hSw
      go_simp
      try with_reducible rfl
    simp only [Act.put, List.getElem_toArray, List.getElem_cons_zero, List.getElem_cons_succ, List.setIfInBounds_toArray, List.set_cons_zero, List.set_cons_succ]
    refine wpAnyH_take (i := 2) (v := ?_) rfl (by kernel_rfl) (by kernel_rfl) (by kernel_rfl) (fun _ _ _ h => h) (Or.inl ⟨by rfl, ?_⟩) (by assumption) ?_
    rotate_left
    · intro w hSw
      go_simp
      try with_reducible rfl
    simp only [Act.put, List.getElem_toArray, List.getElem_cons_zero, List.getElem_cons_succ, List.setIfInBounds_toArray, List.set_cons_zero, List.set_cons_succ]
    refine wpAnyH_take (i := 4) (v := ?_) rfl (by kernel_rfl) (by kernel_rfl) (by kernel_rfl) (fun _ _ _ h => h) (Or.inl ⟨by rfl, ?_⟩) (by assumption) ?_
    rotate_left
    · intro w hSw
      go_simp
      try with_reducible rfl
    simp only [Act.put, List.getElem_toArray, List.getElem_cons_zero, List.getElem_cons_succ, List.setIfInBounds_toArray, List.set_cons_zero, List.set_cons_succ]
    refine wpAnyH_take (i := 5) (v := ?_) rfl (by kernel_rfl) (by kernel_rfl) (by kernel_rfl) (fun _ _ _ h => h) (Or.inl ⟨by rfl, ?_⟩) (by assumption) ?_
    rotate_left
    · intro w hSw
      go_simp
      try with_reducible rfl
    simp only [Act.put, List.getElem_toArray, List.getElem_cons_zero, List.getElem_cons_succ, List.setIfInBounds_toArray, List.set_cons_zero, List.set_cons_succ]
    refine wpAnyH_take (i := 6) (v := ?_) rfl (by kernel_rfl) (by kernel_rfl) (by kernel_rfl) (fun _ _ _ h => h) (Or.inl ⟨by rfl, ?_⟩) (by assumption) ?_
    rotate_left
    · intro w hSw
      go_simp
      try with_reducible rfl
    simp only [Act.put, List.getElem_toArray, List.getElem_cons_zero, List.getElem_cons_succ, List.setIfInBounds_toArray, List.set_cons_zero, List.set_cons_succ]
    refine wpAnyH_ready (rs := [3]) (by kernel_rfl) (by simp) ?_
    refine AllReadyH.cons rfl (fun K hK => ?_) AllReadyH.nil
    go_simp
    refine (pRank x.key (hHeld.2.out.ws.prs k HK.out).1 MS.out).mono ?_
    rintro e w9 ⟨rfl, bb⟩
    refine hK.out _ _ (⟨(opBox (hHeld.2.out.on bb).box).2.2.2.2.2.1, aside (hHeld.2.out.on bb)⟩) (fun hHeld => ?_)
    clear hK K 
    refine wpAnyH_ready (rs := [7]) (by kernel_rfl) (by simp) ?_
    refine AllReadyH.cons rfl (fun K hK => ?_) AllReadyH.nil
    go_simp
    refine (rrank_any x.key (hHeld.2.out.ws.prs k HK.out).1.ref).mono ?_
    rintro e w9 ⟨rfl, bb⟩
    refine hK.out _ _ (⟨(opBox (hHeld.2.out.on bb).box).2.2.2.2.2.1, aside (hHeld.2.out.on bb)⟩) (fun hHeld => ?_)
    clear hK K 
    refine wpAnyH_take (i := 8) (v := ?_) rfl (by kernel_rfl) (by kernel_rfl) (by kernel_rfl) (fun _ _ _ h => h) (Or.inl ⟨by rfl, ?_⟩) (by assumption) ?_
    rotate_left
    · intro w hSw
      go_simp
      try with_reducible rfl
    simp only [Act.put, List.getElem_toArray, List.getElem_cons_zero, List.getElem_cons_succ, List.setIfInBounds_toArray, List.set_cons_zero, List.set_cons_succ]
    refine wpAnyH_take (i := 9) (v := ?_) rfl (by kernel_rfl) (by kernel_rfl) (by kernel_rfl) (fun _ _ _ h => h) (Or.inl ⟨by rfl, ?_⟩) (by assumption) ?_
    rotate_left
    · intro w hSw
      go_simp
      try with_reducible rfl
    simp only [Act.put, List.getElem_toArray, List.getElem_cons_zero, List.getElem_cons_succ, List.setIfInBounds_toArray, List.set_cons_zero, List.set_cons_succ]
    refine wpAnyH_done (by kernel_rfl) ?_ _
    have D6 := aside hHeld.2.out
    clear hHeld
    go_wp2
    go_ret
    exact ⟨rfl, _, _, _, _, _, _, D6.out.ws.up (Nat.le_succ m)⟩
  · by_cases hin : 0 ≤ x.i ∧ x.i < ((P k).l.length : Int)
    · obtain ⟨q, hq⟩ : ∃ q : Nat, x.i = (q : Int) := ⟨x.i.toNat, by omega⟩
      have HI := aside hq
      have HQ := aside (show q < (P k).l.length from by omega)
      rw [hq] at b2
      clear hin hq
      go_wp2_with fail
      refine (pAtIn PK.out MS.out q HQ.out).mono ?_
      rintro e w5 ⟨rfl, b5'⟩
      have D5 := aside (D2.out.on b5')
      clear b5' b0 b1 b2 b3 b4 b5 b6 b7
      obtain ⟨b0, b1, b2, b3, b4, b5, b6, b7⟩ := opBox D5.out.box
      rw [HI.out] at b2
      go_wp2_with fail
      refine (rat_in (D5.out.ws.prs k HK.out).1.ref q HQ.out).mono ?_
      rintro e w6 ⟨rfl, b6'⟩
      have D6 := aside (D5.out.on b6')
      clear b6' b0 b1 b2 b3 b4 b5 b6 b7 D5
      go_wp2
      go_ret
      exact ⟨rfl, _, _, _, _, _, _, D6.out.ws.up (Nat.le_succ m)⟩
    · have HO := aside (show x.i < 0 ∨ ((P k).l.length : Int) ≤ x.i from by omega)
      clear hin
      go_wp2_with fail
      refine (pAtOut PK.out MS.out x.i HX.out.2.2.1 HO.out).mono ?_
      rintro e w5 ⟨rfl, b5'⟩
      have D5 := aside (D2.out.on b5')
      clear b5' b0 b1 b2 b3 b4 b5 b6 b7
      obtain ⟨b0, b1, b2, b3, b4, b5, b6, b7⟩ := opBox D5.out.box
      skip
      go_wp2_with fail
      refine (rat_out (D5.out.ws.prs k HK.out).1.ref x.i HO.out).mono ?_
      rintro e w6 ⟨rfl, b6'⟩
      have D6 := aside (D5.out.on b6')
      clear b6' b0 b1 b2 b3 b4 b5 b6 b7 D5
      go_wp2
      go_ret
      exact ⟨rfl, _, _, _, _, _, _, D6.out.ws.up (Nat.le_succ m)⟩
  · clear b0 b1 b4 b5 b6 b7
    obtain ⟨F, hF⟩ : ∃ F, foldL mJoin mZero (seg ((P k).l.map rowOf) (max x.i 0).toNat (min x.j ((P k).l.length : Int)).toNat) = F := ⟨_, rfl⟩
    have CA := aside (fun X (h : DS w X wb ga ca gb cb gx P n m x) => pFold x.i x.j (h.ws.prs k HK.out).1 MS.out)
    have CB := aside (fun X (h : DS w X wb ga ca gb cb gx P n m x) => pRFold x.i x.j (h.ws.prs k HK.out).1 MS.out)
    rw [hF] at CA CB
    clear hF
    go_wp2_with fail
    refine wp_region_held_drew (S := fun X => X.cell? ⟨gx, 2, none⟩ = some (.int .i64 x.i) ∧ X.cell? ⟨gx, 3, none⟩ = some (.int .i64 x.j) ∧ Hid (DS w X wb ga ca gb cb gx P n m x)) (by kernel_rfl) ⟨b2, b3, aside (D2.out.on ((Below.refl _ w4).drew))⟩ (fun hHeld => ?_)
    clear b2 b3
    refine wpAnyH_take (i := 0) (v := ?_) rfl (by kernel_rfl) (by kernel_rfl) (by kernel_rfl) (fun _ _ _ h => h) (Or.inl ⟨by rfl, ?_⟩) (by assumption) ?_
    rotate_left
    · intro w hSw
      go_simp
      try with_reducible rfl
    simp only [Act.put, List.getElem_toArray, List.getElem_cons_zero, List.setIfInBounds_toArray, List.set_cons_zero, List.set_cons_succ]
    refine wpAnyH_take (i := 1) (v := ?_) rfl (by kernel_rfl) (by kernel_rfl) (by kernel_rfl) (fun _ _ _ h => h) (Or.inl ⟨by rfl, ?_⟩) (by assumption) ?_
    rotate_left
    · intro w hSw
      go_simp
      try with_reducible rfl
    simp only [Act.put, List.getElem_toArray, List.getElem_cons_zero, List.getElem_cons_succ, List.setIfInBounds_toArray, List.set_cons_zero, List.set_cons_succ]
    refine wpAnyH_take (i := 2) (v := ?_) rfl (by kernel_rfl) (by kernel_rfl) (by kernel_rfl) (fun _ _ _ h => h) (Or.inl ⟨by rfl, ?_⟩) (by assumption) ?_
    rotate_left
    · intro w hSw
      go_simp
      try with_reducible rfl
    simp only [Act.put, List.getElem_toArray, List.getElem_cons_zero, List.getElem_cons_succ, List.setIfInBounds_toArray, List.set_cons_zero, List.set_cons_succ]
    refine wpAnyH_take (i := 3) (v := ?_) rfl (by kernel_rfl) (by kernel_rfl) (by kernel_rfl) (fun _ _ _ h => h) (Or.inl ⟨by rfl, ?_⟩) (by assumption) ?_
    rotate_left
    · intro w hSw
      go_simp
      try with_reducible rfl
    simp only [Act.put, List.getElem_toArray, List.getElem_cons_zero, List.getElem_cons_succ, List.setIfInBounds_toArray, List.set_cons_zero, List.set_cons_succ]
    refine wpAnyH_take (i := 4) (v := ?_) rfl (by kernel_rfl) (by kernel_rfl) (by kernel_rfl) (fun _ _ _ h => h) (Or.inl ⟨by rfl, ?_⟩) (by assumption) ?_
    rotate_left
    · intro w hSw
      go_simp
      try with_reducible rfl
    simp only [Act.put, List.getElem_toArray, List.getElem_cons_zero, List.getElem_cons_succ, List.setIfInBounds_toArray, List.set_cons_zero, List.set_cons_succ]
    refine wpAnyH_take (i := 6) (v := ?_) rfl (by kernel_rfl) (by kernel_rfl) (by kernel_rfl) (fun _ _ _ h => h) (Or.inl ⟨by rfl, ?_⟩) (by assumption) ?_
    rotate_left
    · intro w hSw
      go_simp
      try with_reducible rfl
    simp only [Act.put, List.getElem_toArray, List.getElem_cons_zero, List.getElem_cons_succ, List.setIfInBounds_toArray, List.set_cons_zero, List.set_cons_succ]
    refine wpAnyH_take (i := 7) (v := ?_) rfl (by kernel_rfl) (by kernel_rfl) (by kernel_rfl) (fun _ _ _ h => h) (Or.inl ⟨by rfl, ?_⟩) (by assumption) ?_
    rotate_left
    · intro w hSw
      go_simp
      try with_reducible rfl
    simp only [Act.put, List.getElem_toArray, List.getElem_cons_zero, List.getElem_cons_succ, List.setIfInBounds_toArray, List.set_cons_zero, List.set_cons_succ]
    refine wpAnyH_take (i := 8) (v := ?_) rfl (by kernel_rfl) (by kernel_rfl) (by kernel_rfl) (fun _ _ _ h => h) (Or.inl ⟨by rfl, ?_⟩) (by assumption) ?_
    rotate_left
    · intro w hSw
      go_simp
      try with_reducible rfl
    simp only [Act.put, List.getElem_toArray, List.getElem_cons_zero, List.getElem_cons_succ, List.setIfInBounds_toArray, List.set_cons_zero, List.set_cons_succ]
    refine wpAnyH_take (i := 9) (v := ?_) rfl (by kernel_rfl) (by kernel_rfl) (by kernel_rfl) (fun _ _ _ h => h) (Or.inl ⟨by rfl, ?_⟩) (by assumption) ?_
    rotate_left
    · intro w hSw
      go_simp
      try with_reducible rfl
    simp only [Act.put, List.getElem_toArray, List.getElem_cons_zero, List.getElem_cons_succ, List.setIfInBounds_toArray, List.set_cons_zero, List.set_cons_succ]
    refine wpAnyH_take (i := 10) (v := ?_) rfl (by kernel_rfl) (by kernel_rfl) (by kernel_rfl) (fun _ _ _ h => h) (Or.inl ⟨by rfl, ?_⟩) (by assumption) ?_
    rotate_left
    · intro w hSw
      go_simp
      try with_reducible rfl
    simp only [Act.put, List.getElem_toArray, List.getElem_cons_zero, List.getElem_cons_succ, List.setIfInBounds_toArray, List.set_cons_zero, List.set_cons_succ]
    refine wpAnyH_ready (rs := [5]) (by kernel_rfl) (by simp) ?_
    refine AllReadyH.cons rfl (fun K hK => ?_) AllReadyH.nil
    go_simp
    refine (CA.out _ hHeld.2.2.out).mono ?_
    rintro e w9 ⟨rfl, bb⟩
    refine hK.out _ _ (⟨(opBox (hHeld.2.2.out.on bb).box).2.2.1, (opBox (hHeld.2.2.out.on bb).box).2.2.2.1, aside (hHeld.2.2.out.on bb)⟩) (fun hHeld => ?_)
    clear hK K 
    refine wpAnyH_ready (rs := [11]) (by kernel_rfl) (by simp) ?_
    refine AllReadyH.cons rfl (fun K hK => ?_) AllReadyH.nil
    go_simp
    refine (CB.out _ hHeld.2.2.out).mono ?_
    rintro e w9 ⟨rfl, bb⟩
    refine hK.out _ _ (⟨(opBox (hHeld.2.2.out.on bb).box).2.2.1, (opBox (hHeld.2.2.out.on bb).box).2.2.2.1, aside (hHeld.2.2.out.on bb)⟩) (fun hHeld => ?_)
    clear hK K 
    refine wpAnyH_take (i := 12) (v := .bool true) rfl (by kernel_rfl) (by kernel_rfl) (by kernel_rfl) (fun _ _ _ h => h) (Or.inl ⟨by rfl, ?_⟩) (by assumption) ?_
    · intro w hSw
      have hme := map_eq F w
      go_simp
    simp only [Act.put, List.getElem_toArray, List.getElem_cons_zero, List.getElem_cons_succ, List.setIfInBounds_toArray, List.set_cons_zero, List.set_cons_succ]
    refine wpAnyH_take (i := 13) (v := ?_) rfl (by kernel_rfl) (by kernel_rfl) (by kernel_rfl) (fun _ _ _ h => h) (Or.inl ⟨by rfl, ?_⟩) (by assumption) ?_
    rotate_left
    · intro w hSw
      go_simp
      try with_reducible rfl
    simp only [Act.put, List.getElem_toArray, List.getElem_cons_zero, List.getElem_cons_succ, List.setIfInBounds_toArray, List.set_cons_zero, List.set_cons_succ]
    refine wpAnyH_done (by kernel_rfl) ?_ _
    have D6 := aside hHeld.2.2.out
    clear hHeld
    go_wp2
    go_ret
    exact ⟨rfl, _, _, _, _, _, _, D6.out.ws.up (Nat.le_succ m)⟩
  · by_cases hn : (n : Int) < 4
    · have c0 := (D2.out.ws.cells HK.out).1
      have c1 := (D2.out.ws.cells HK.out).2.1
      clear b0 b1 b2 b3 b4 b5 b6 b7
      have C0 := aside (D2.out.ws.cs.on ((Below.refl _ w4).drew))
      have A0 := aside ((PK.out.on ((Below.refl _ w4).drew)))
      have LA := aside (show (ptrA P n).length = n from by simp [ptrA])
      have LB := aside (show (ptrB P n).length = n from by simp [ptrB])
      go_wp2_with fail
      refine wp_region_until (z := 20) (S := fun X => X.cell? ⟨wb, 0, none⟩ = some (.slice (some ⟨ga, 0, none⟩) n ca) ∧ X.cell? ⟨wb, 1, none⟩ = some (.slice (some ⟨gb, 0, none⟩) n cb)) (by kernel_rfl) ⟨c0, c1⟩ (fun hHeld => ?_)
      clear c0 c1
      refine Until.takeY (i := 0) (v := ?_) rfl (by kernel_rfl) (by kernel_rfl) (by kernel_rfl) (by rfl) (fun _ _ _ h => h) (Or.inl ⟨by rfl, ?_⟩) (by assumption) ?_
      rotate_left
      · intro w hSw
        go_simp
        try with_reducible rfl
      simp only [Act.put, List.getElem_toArray, List.getElem_cons_zero, List.setIfInBounds_toArray, List.set_cons_zero, List.set_cons_succ]
      refine Until.takeY (i := 1) (v := ?_) rfl (by kernel_rfl) (by kernel_rfl) (by kernel_rfl) (by rfl) (fun _ _ _ h => h) (Or.inl ⟨by rfl, ?_⟩) (by assumption) ?_
      rotate_left
      · intro w hSw
        go_simp
        try with_reducible rfl
      simp only [Act.put, List.getElem_toArray, List.getElem_cons_zero, List.getElem_cons_succ, List.setIfInBounds_toArray, List.set_cons_zero, List.set_cons_succ]
      refine Until.takeY (i := 2) (v := ?_) rfl (by kernel_rfl) (by kernel_rfl) (by kernel_rfl) (by rfl) (fun _ _ _ h => h) (Or.inl ⟨by rfl, ?_⟩) (by assumption) ?_
      rotate_left
      · intro w hSw
        go_simp
        try with_reducible rfl
      simp only [Act.put, List.getElem_toArray, List.getElem_cons_zero, List.getElem_cons_succ, List.setIfInBounds_toArray, List.set_cons_zero, List.set_cons_succ]
      refine Until.takeY (i := 3) (v := ?_) rfl (by kernel_rfl) (by kernel_rfl) (by kernel_rfl) (by rfl) (fun _ _ _ h => h) (Or.inl ⟨by rfl, ?_⟩) (by assumption) ?_
      rotate_left
      · intro w hSw
        go_simp
        try with_reducible rfl
      simp only [Act.put, List.getElem_toArray, List.getElem_cons_zero, List.getElem_cons_succ, List.setIfInBounds_toArray, List.set_cons_zero, List.set_cons_succ]
      refine Until.takeY (i := 4) (v := ?_) rfl (by kernel_rfl) (by kernel_rfl) (by kernel_rfl) (by rfl) (fun _ _ _ h => h) (Or.inl ⟨by rfl, ?_⟩) (by assumption) ?_
      rotate_left
      · intro w hSw
        go_simp
        try with_reducible rfl
      simp only [Act.put, List.getElem_toArray, List.getElem_cons_zero, List.getElem_cons_succ, List.setIfInBounds_toArray, List.set_cons_zero, List.set_cons_succ]
      refine Until.take (i := 5) (v := ?_) [9, 20] rfl (by kernel_rfl) (by kernel_rfl) (by kernel_rfl) (by kernel_rfl) (by rfl) (by rfl) (by kernel_rfl) (fun _ _ _ h => h) (Or.inl ⟨by rfl, ?_⟩) (by assumption) ?_
      rotate_left
      · intro w hSw
        go_simp
        try with_reducible rfl
      simp only [Act.put, List.getElem_toArray, List.getElem_cons_zero, List.getElem_cons_succ, List.setIfInBounds_toArray, List.set_cons_zero, List.set_cons_succ]
      refine Until.takeY (i := 6) (v := ?_) rfl (by kernel_rfl) (by kernel_rfl) (by kernel_rfl) (by rfl) (fun _ _ _ h => h) (Or.inl ⟨by rfl, ?_⟩) (by assumption) ?_
      rotate_left
      · intro w hSw
        go_simp
        try with_reducible rfl
      simp only [Act.put, List.getElem_toArray, List.getElem_cons_zero, List.getElem_cons_succ, List.setIfInBounds_toArray, List.set_cons_zero, List.set_cons_succ]
      refine Until.takeY (i := 10) (v := ?_) rfl (by kernel_rfl) (by kernel_rfl) (by kernel_rfl) (by rfl) (fun _ _ _ h => h) (Or.inl ⟨by rfl, ?_⟩) (by assumption) ?_
      rotate_left
      · intro w hSw
        go_simp
        try with_reducible rfl
      simp only [Act.put, List.getElem_toArray, List.getElem_cons_zero, List.getElem_cons_succ, List.setIfInBounds_toArray, List.set_cons_zero, List.set_cons_succ]
      refine Until.takeY (i := 11) (v := ?_) rfl (by kernel_rfl) (by kernel_rfl) (by kernel_rfl) (by rfl) (fun _ _ _ h => h) (Or.inl ⟨by rfl, ?_⟩) (by assumption) ?_
      rotate_left
      · intro w hSw
        go_simp
        try with_reducible rfl
      simp only [Act.put, List.getElem_toArray, List.getElem_cons_zero, List.getElem_cons_succ, List.setIfInBounds_toArray, List.set_cons_zero, List.set_cons_succ]
      refine Until.takeY (i := 12) (v := ?_) rfl (by kernel_rfl) (by kernel_rfl) (by kernel_rfl) (by rfl) (fun _ _ _ h => h) (Or.inl ⟨by rfl, ?_⟩) (by assumption) ?_
      rotate_left
      · intro w hSw
        go_simp
        try with_reducible rfl
      simp only [Act.put, List.getElem_toArray, List.getElem_cons_zero, List.getElem_cons_succ, List.setIfInBounds_toArray, List.set_cons_zero, List.set_cons_succ]
      refine Until.take (i := 13) (v := ?_) [17, 20] rfl (by kernel_rfl) (by kernel_rfl) (by kernel_rfl) (by kernel_rfl) (by rfl) (by rfl) (by kernel_rfl) (fun _ _ _ h => h) (Or.inl ⟨by rfl, ?_⟩) (by assumption) ?_
      rotate_left
      · intro w hSw
        go_simp
        try with_reducible rfl
      simp only [Act.put, List.getElem_toArray, List.getElem_cons_zero, List.getElem_cons_succ, List.setIfInBounds_toArray, List.set_cons_zero, List.set_cons_succ]
      refine Until.takeY (i := 14) (v := ?_) rfl (by kernel_rfl) (by kernel_rfl) (by kernel_rfl) (by rfl) (fun _ _ _ h => h) (Or.inl ⟨by rfl, ?_⟩) (by assumption) ?_
      rotate_left
      · intro w hSw
        go_simp
        try with_reducible rfl
      simp only [Act.put, List.getElem_toArray, List.getElem_cons_zero, List.getElem_cons_succ, List.setIfInBounds_toArray, List.set_cons_zero, List.set_cons_succ]
      generalize w4.drew = X0 at *
      refine Until.step (i := 7) (by kernel_rfl) rfl (by rfl) (fun K hK => ?_)
      go_simp
      refine (ycloneM A0.out.tree).mono ?_
      rintro e w7 ⟨tb, rfl, t7, b7, l7⟩
      have C7 := aside (C0.out.on b7)
      have T7 := aside t7
      have L7 := aside l7
      refine hK.out _ _ ⟨by simp [World.cell?, C7.out.blk], by simp [World.cell?, C7.out.blk]⟩ (fun hHeld => ?_)
      clear hK K t7 b7 l7
      refine Until.step (i := 8) (by kernel_rfl) rfl (by rfl) (fun K hK => ?_)
      go_simp
      have C8 := aside (C7.out.on (bnew w7 (.cells #[.pointer (some ⟨tb, 0, none⟩)] 37)))
      have T8 := aside (T7.out.below (bnew w7 (.cells #[.pointer (some ⟨tb, 0, none⟩)] 37)))
      have X8 := aside (heap_alloc_new w7 (.cells #[.pointer (some ⟨tb, 0, none⟩)] 37))
      refine hK.out _ _ ⟨by simp [World.cell?, C8.out.blk], by simp [World.cell?, C8.out.blk]⟩ (fun hHeld => ?_)
      clear hK K
      generalize w7.alloc (.cells #[.pointer (some ⟨tb, 0, none⟩)] 37) = w8 at *
      generalize w7.heap.size = g8 at *
      refine Until.step (i := 9) (by kernel_rfl) rfl (by rfl) (fun K hK => ?_)
      rw [if_pos (by rfl)]
      refine op_append_pA _ _ rfl w.heap.size n (.slice (some ⟨ga, 0, none⟩) n ca) (ptrA P n) (by rfl) (by have h1 := C8.out.rowA; rwa [LA.out] at h1) g8 1 (some ⟨tb, 0, none⟩) (by rfl) X8.out (by omega) C8.out.below.size ?_
      intro g9 c9 w9 own9 gr9
      have T9 := aside (C8.out.treeB T8.out C8.out.rowA gr9 (by decide) (by decide))
      have C9 := aside (C8.out.growA gr9 (vA' := .slice (some ⟨g9, 0, none⟩) (n + 1) c9) (xA' := ptrA P n ++ [.pointer (some ⟨tb, 0, none⟩)]) (by rw [List.length_append, LA.out]; exact own9))
      refine hK.out _ _ ⟨by simp [World.cell?, C9.out.blk], by simp [World.cell?, C9.out.blk]⟩ (fun hHeld => ?_)
      clear hK K own9 gr9
      simp only [Act.put, List.getElem_toArray, List.getElem_cons_zero, List.getElem_cons_succ, List.setIfInBounds_toArray, List.set_cons_zero, List.set_cons_succ]
      refine Until.step (i := 15) (by kernel_rfl) rfl (by rfl) (fun K hK => ?_)
      go_simp
      refine (rclone_any (C9.out.prs k HK.out).1.ref).mono ?_
      rintro e w15 ⟨rb, rfl, l15, r15, b15⟩
      have C15 := aside (C9.out.on b15)
      have T15 := aside (T9.out.below b15)
      have R15 := aside r15
      have L15 := aside l15
      refine hK.out _ _ ⟨by simp [World.cell?, C15.out.blk], by simp [World.cell?, C15.out.blk]⟩ (fun hHeld => ?_)
      clear hK K l15 r15 b15
      refine Until.step (i := 16) (by kernel_rfl) rfl (by rfl) (fun K hK => ?_)
      go_simp
      have C16 := aside (C15.out.on (bnew w15 (.cells #[.pointer (some ⟨rb, 0, none⟩)] 38)))
      have T16 := aside (T15.out.below (bnew w15 (.cells #[.pointer (some ⟨rb, 0, none⟩)] 38)))
      have R16 := aside (R15.out.on (bnew w15 (.cells #[.pointer (some ⟨rb, 0, none⟩)] 38)))
      have X16 := aside (heap_alloc_new w15 (.cells #[.pointer (some ⟨rb, 0, none⟩)] 38))
      refine hK.out _ _ ⟨by simp [World.cell?, C16.out.blk], by simp [World.cell?, C16.out.blk]⟩ (fun hHeld => ?_)
      clear hK K
      generalize w15.alloc (.cells #[.pointer (some ⟨rb, 0, none⟩)] 38) = w16 at *
      generalize w15.heap.size = g16 at *
      refine Until.step (i := 17) (by kernel_rfl) rfl (by rfl) (fun K hK => ?_)
      rw [if_pos (by rfl)]
      refine op_append_pB _ _ rfl w.heap.size n (.slice (some ⟨gb, 0, none⟩) n cb) (ptrB P n) (by rfl) (by have h1 := C16.out.rowB; rwa [LB.out] at h1) g16 1 (some ⟨rb, 0, none⟩) (by rfl) X16.out (by omega) C16.out.below.size ?_
      intro g17 c17 w17 own17 gr17
      have T17 := aside (C16.out.treeB T16.out C16.out.rowB gr17 (by decide) (by decide))
      have R17 := aside (R16.out.grow C16.out.rowB gr17 (by decide) (by decide))
      have C17 := aside (C16.out.growB gr17 (vB' := .slice (some ⟨g17, 0, none⟩) (n + 1) c17) (xB' := ptrB P n ++ [.pointer (some ⟨rb, 0, none⟩)]) (by rw [List.length_append, LB.out]; exact own17))
      refine hK.out _ _ ⟨by simp [World.cell?, C17.out.blk], by simp [World.cell?, C17.out.blk]⟩ (fun hHeld => ?_)
      clear hK K own17 gr17
      simp only [Act.put, List.getElem_toArray, List.getElem_cons_zero, List.getElem_cons_succ, List.setIfInBounds_toArray, List.set_cons_zero, List.set_cons_succ]
      refine Until.takeY (i := 18) (v := ?_) rfl (by kernel_rfl) (by kernel_rfl) (by kernel_rfl) (by rfl) (fun _ _ _ h => h) (Or.inl ⟨by rfl, ?_⟩) (by assumption) ?_
      rotate_left
      · intro w hSw
        go_simp
        try with_reducible rfl
      simp only [Act.put, List.getElem_toArray, List.getElem_cons_zero, List.getElem_cons_succ, List.setIfInBounds_toArray, List.set_cons_zero, List.set_cons_succ]
      refine Until.takeY (i := 19) (v := ?_) rfl (by kernel_rfl) (by kernel_rfl) (by kernel_rfl) (by rfl) (fun _ _ _ h => h) (Or.inl ⟨by rfl, ?_⟩) (by assumption) ?_
      rotate_left
      · intro w hSw
        go_simp
        try with_reducible rfl
      simp only [Act.put, List.getElem_toArray, List.getElem_cons_zero, List.getElem_cons_succ, List.setIfInBounds_toArray, List.set_cons_zero, List.set_cons_succ]
      have E17 := aside (C17.out.done HK.out (by omega) T17.out R17.out (by have h1 := C0.out.below.size; have h2 := L7.out; omega) (by have h1 := C9.out.below.size; have h2 := L15.out; omega) (fun j hj => by have h1 := (C0.out.prs j hj).1.tree.lt; have h2 := L7.out; omega) (fun j hj => by have h1 := (C9.out.prs j hj).1.ref.lt; have h2 := L15.out; omega))
      obtain ⟨z0, z1, y0, y1⟩ : w17.cell? ⟨wb, 0, none⟩ = some (.slice (some ⟨ga, 0, none⟩) n ca) ∧ w17.cell? ⟨wb, 1, none⟩ = some (.slice (some ⟨gb, 0, none⟩) n cb) ∧ w17.frozen? ⟨wb, 0, none⟩ = false ∧ w17.frozen? ⟨wb, 1, none⟩ = false := by simp [World.cell?, World.frozen?, C17.out.blk]
      clear hHeld C0 A0 C7 T7 C8 T8 X8 C9 T9 C15 T15 R15 C16 T16 R16 X16 T17 R17 C17
      refine Until.last (by kernel_rfl) rfl (fun K hK => ?_)
      go_simp
      refine hK.out _ _ ?_
      clear hK K
      refine wpAny_of_held (S := fun _ => True) _ _ _ _ ?_
      have hTrue : True := trivial
      refine wpAnyH_take (i := 21) (v := ?_) rfl (by kernel_rfl) (by kernel_rfl) (by kernel_rfl) (fun _ _ _ h => h) (Or.inl ⟨by rfl, ?_⟩) (by assumption) ?_
      rotate_left
      · intro w hSw
        go_simp
        try with_reducible rfl
      simp only [Act.put, List.getElem_toArray, List.getElem_cons_zero, List.getElem_cons_succ, List.setIfInBounds_toArray, List.set_cons_zero, List.set_cons_succ]
      refine wpAnyH_take (i := 22) (v := ?_) rfl (by kernel_rfl) (by kernel_rfl) (by kernel_rfl) (fun _ _ _ h => h) (Or.inl ⟨by rfl, ?_⟩) (by assumption) ?_
      rotate_left
      · intro w hSw
        go_simp
        try with_reducible rfl
      simp only [Act.put, List.getElem_toArray, List.getElem_cons_zero, List.getElem_cons_succ, List.setIfInBounds_toArray, List.set_cons_zero, List.set_cons_succ]
      refine wpAnyH_ready (rs := [23]) (by kernel_rfl) (by simp) ?_
      refine AllReadyH.cons rfl (fun K hK => ?_) AllReadyH.nil
      go_simp
      refine hK.out _ _ (trivial) (fun hHeld => ?_)
      clear hK K 
      refine wpAnyH_done (by kernel_rfl) ?_ _
      generalize (w17.setCell ⟨wb, 0, none⟩ (.slice (some ⟨g9, 0, none⟩) (n + 1) c9)).setCell ⟨wb, 1, none⟩ (.slice (some ⟨g17, 0, none⟩) (n + 1) c17) = w18 at *
      clear z0 z1 y0 y1
      have hnn : (0 : Int) ≤ (n : Int) := by omega
      have hc9 := (row_blk E17.out.rowA).1
      have hnl : (n : Int) < (n : Int) + 1 := by omega
      have q1 := (E17.out.cells (k := n) (by omega)).1
      have q2 := (E17.out.cells (k := n) (by omega)).2.2.1
      rw [show (upd P n ⟨tb, (P k).A, rb, (P k).l⟩ n).tb = tb from by simp [upd]] at q2
      have hsub : IntKind.i64.wrap (n : Int) = (n : Int) := by rw [IntKind.wrap_i64]; omega
      go_wp2_with fail
      refine wp_region_held_drew (S := fun X => X.cell? ⟨wb, 0, none⟩ = some (.slice (some ⟨g9, 0, none⟩) (n + 1) c9) ∧ X.cell? ⟨g9, n, none⟩ = some (.pointer (some ⟨tb, 0, none⟩)) ∧ Hid (WS w X wb g9 c9 g17 c17 (upd P n ⟨tb, (P k).A, rb, (P k).l⟩) (n + 1) m)) (by kernel_rfl) ⟨q1, q2, aside E17.out.drew⟩ (fun hHeld => ?_)
      refine wpAnyH_take (i := 0) (v := ?_) rfl (by kernel_rfl) (by kernel_rfl) (by kernel_rfl) (fun _ _ _ h => h) (Or.inl ⟨by rfl, ?_⟩) (by assumption) ?_
      rotate_left
      · intro w hSw
        go_simp
        try with_reducible rfl
      simp only [Act.put, List.getElem_toArray, List.getElem_cons_zero, List.setIfInBounds_toArray, List.set_cons_zero, List.set_cons_succ]
      refine wpAnyH_take (i := 1) (v := ?_) rfl (by kernel_rfl) (by kernel_rfl) (by kernel_rfl) (fun _ _ _ h => h) (Or.inl ⟨by rfl, ?_⟩) (by assumption) ?_
      rotate_left
      · intro w hSw
        go_simp
        try with_reducible rfl
      simp only [Act.put, List.getElem_toArray, List.getElem_cons_zero, List.getElem_cons_succ, List.setIfInBounds_toArray, List.set_cons_zero, List.set_cons_succ]
      refine wpAnyH_take (i := 2) (v := ?_) rfl (by kernel_rfl) (by kernel_rfl) (by kernel_rfl) (fun _ _ _ h => h) (Or.inl ⟨by rfl, ?_⟩) (by assumption) ?_
      rotate_left
      · intro w hSw
        go_simp
        try with_reducible rfl
      simp only [Act.put, List.getElem_toArray, List.getElem_cons_zero, List.getElem_cons_succ, List.setIfInBounds_toArray, List.set_cons_zero, List.set_cons_succ]
      refine wpAnyH_take (i := 3) (v := ?_) rfl (by kernel_rfl) (by kernel_rfl) (by kernel_rfl) (fun _ _ _ h => h) (Or.inl ⟨by rfl, ?_⟩) (by assumption) ?_
      rotate_left
      · intro w hSw
        go_simp
        try with_reducible rfl
      simp only [Act.put, List.getElem_toArray, List.getElem_cons_zero, List.getElem_cons_succ, List.setIfInBounds_toArray, List.set_cons_zero, List.set_cons_succ]
      refine wpAnyH_take (i := 4) (v := ?_) rfl (by kernel_rfl) (by kernel_rfl) (by kernel_rfl) (fun _ _ _ h => h) (Or.inl ⟨by rfl, ?_⟩) (by assumption) ?_
      rotate_left
      · intro w hSw
        go_simp
        try with_reducible rfl
      simp only [Act.put, List.getElem_toArray, List.getElem_cons_zero, List.getElem_cons_succ, List.setIfInBounds_toArray, List.set_cons_zero, List.set_cons_succ]
      refine wpAnyH_take (i := 5) (v := ?_) rfl (by kernel_rfl) (by kernel_rfl) (by kernel_rfl) (fun _ _ _ h => h) (Or.inl ⟨by rfl, ?_⟩) (by assumption) ?_
      rotate_left
      · intro w hSw
        go_simp
        try with_reducible rfl
      simp only [Act.put, List.getElem_toArray, List.getElem_cons_zero, List.getElem_cons_succ, List.setIfInBounds_toArray, List.set_cons_zero, List.set_cons_succ]
      refine wpAnyH_take (i := 6) (v := ?_) rfl (by kernel_rfl) (by kernel_rfl) (by kernel_rfl) (fun _ _ _ h => h) (Or.inl ⟨by rfl, ?_⟩) (by assumption) ?_
      rotate_left
      · intro w hSw
        go_simp
        try with_reducible rfl
      simp only [Act.put, List.getElem_toArray, List.getElem_cons_zero, List.getElem_cons_succ, List.setIfInBounds_toArray, List.set_cons_zero, List.set_cons_succ]
      refine wpAnyH_take (i := 7) (v := ?_) rfl (by kernel_rfl) (by kernel_rfl) (by kernel_rfl) (fun _ _ _ h => h) (Or.inl ⟨by rfl, ?_⟩) (by assumption) ?_
      rotate_left
      · intro w hSw
        go_simp
        try with_reducible rfl
      simp only [Act.put, List.getElem_toArray, List.getElem_cons_zero, List.getElem_cons_succ, List.setIfInBounds_toArray, List.set_cons_zero, List.set_cons_succ]
      refine wpAnyH_take (i := 8) (v := ?_) rfl (by kernel_rfl) (by kernel_rfl) (by kernel_rfl) (fun _ _ _ h => h) (Or.inl ⟨by rfl, ?_⟩) (by assumption) ?_
      rotate_left
      · intro w hSw
        go_simp
        try with_reducible rfl
      simp only [Act.put, List.getElem_toArray, List.getElem_cons_zero, List.getElem_cons_succ, List.setIfInBounds_toArray, List.set_cons_zero, List.set_cons_succ]
      refine wpAnyH_take (i := 9) (v := ?_) rfl (by kernel_rfl) (by kernel_rfl) (by kernel_rfl) (fun _ _ _ h => h) (Or.inl ⟨by rfl, ?_⟩) (by assumption) ?_
      rotate_left
      · intro w hSw
        go_simp
        try with_reducible rfl
      simp only [Act.put, List.getElem_toArray, List.getElem_cons_zero, List.getElem_cons_succ, List.setIfInBounds_toArray, List.set_cons_zero, List.set_cons_succ]
      refine wpAnyH_take (i := 10) (v := ?_) rfl (by kernel_rfl) (by kernel_rfl) (by kernel_rfl) (fun _ _ _ h => h) (Or.inl ⟨by rfl, ?_⟩) (by assumption) ?_
      rotate_left
      · intro w hSw
        go_simp
        try with_reducible rfl
      simp only [Act.put, List.getElem_toArray, List.getElem_cons_zero, List.getElem_cons_succ, List.setIfInBounds_toArray, List.set_cons_zero, List.set_cons_succ]
      refine wpAnyH_take (i := 11) (v := ?_) rfl (by kernel_rfl) (by kernel_rfl) (by kernel_rfl) (fun _ _ _ h => h) (Or.inl ⟨by rfl, ?_⟩) (by assumption) ?_
      rotate_left
      · intro w hSw
        go_simp
        try with_reducible rfl
      simp only [Act.put, List.getElem_toArray, List.getElem_cons_zero, List.getElem_cons_succ, List.setIfInBounds_toArray, List.set_cons_zero, List.set_cons_succ]
      refine wpAnyH_take (i := 12) (v := ?_) rfl (by kernel_rfl) (by kernel_rfl) (by kernel_rfl) (fun _ _ _ h => h) (Or.inl ⟨by rfl, ?_⟩) (by assumption) ?_
      rotate_left
      · intro w hSw
        go_simp
        try with_reducible rfl
      simp only [Act.put, List.getElem_toArray, List.getElem_cons_zero, List.getElem_cons_succ, List.setIfInBounds_toArray, List.set_cons_zero, List.set_cons_succ]
      refine wpAnyH_take (i := 13) (v := ?_) rfl (by kernel_rfl) (by kernel_rfl) (by kernel_rfl) (fun _ _ _ h => h) (Or.inl ⟨by rfl, ?_⟩) (by assumption) ?_
      rotate_left
      · intro w hSw
        go_simp
        try with_reducible rfl
      simp only [Act.put, List.getElem_toArray, List.getElem_cons_zero, List.getElem_cons_succ, List.setIfInBounds_toArray, List.set_cons_zero, List.set_cons_succ]
      refine wpAnyH_done (by kernel_rfl) ?_ _
      have D6 := aside hHeld.2.2.out
      clear hHeld q1 q2 E17
      go_wp2
      go_ret
      exact ⟨rfl, _, _, _, _, _, _, D6.out.up (Nat.le_succ m)⟩
    · have c0 := (D2.out.ws.cells HK.out).1
      clear b0 b1 b2 b3 b4 b5 b6 b7
      go_wp2
      go_ret
      exact ⟨rfl, _, _, _, _, _, _, D2.out.ws.up (Nat.le_succ m)⟩

end Go.Proofs.Ytnlmlhoddchgbaa

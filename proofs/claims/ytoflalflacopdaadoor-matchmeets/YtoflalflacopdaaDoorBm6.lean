/-
  turnLeft (E), case A.
  turnLeft (E), case B.
  level (E).
-/
import Derived.Test.YtoflalflacopdaaDoorBm5
namespace Go.Proofs.YtoflalflacopdaaDoor
open Go.RowKit
set_option linter.unusedVariables false
theorem turnLAE_held {w X : World} {tb n : Nat} {jv : Value} {root : Option Addr} {c : Option Nat} {k gk : ByteArray} {v gv : En} {s gs gq : Tl} {bg : Nat} {glp grp : Option Addr} {gc gh : Int} (h : LStE w X tb n jv root c k v s) (hg : w.heap[bg]? = some (.cells #[.string gk, .string gv.k, .int .i64 gv.c, .int .i64 gv.n, .string gv.v, .bool gv.d, .int .i64 gs.n, .int .u64 gs.a, .int .u64 gs.b, .pointer glp, .pointer grp, .int .i64 gc, .int .i64 gh, .int .i64 gq.n, .int .u64 gq.a, .int .u64 gq.b] 135 (0, 0))) : X.cell? ⟨w.heap.size, 0, none⟩ = some (.string k) ∧ X.cell? ⟨w.heap.size, 1, none⟩ = some (.string v.k) ∧ X.cell? ⟨w.heap.size, 2, none⟩ = some (.int .i64 v.c) ∧ X.cell? ⟨w.heap.size, 3, none⟩ = some (.int .i64 v.n) ∧ X.cell? ⟨w.heap.size, 4, none⟩ = some (.string v.v) ∧ X.cell? ⟨w.heap.size, 5, none⟩ = some (.bool v.d) ∧ X.cell? ⟨w.heap.size, 6, none⟩ = some (.int .i64 s.n) ∧ X.cell? ⟨w.heap.size, 7, none⟩ = some (.int .u64 s.a) ∧ X.cell? ⟨w.heap.size, 8, none⟩ = some (.int .u64 s.b) ∧ X.cell? ⟨bg, 0, none⟩ = some (.string gk) ∧ X.cell? ⟨bg, 1, none⟩ = some (.string gv.k) ∧ X.cell? ⟨bg, 2, none⟩ = some (.int .i64 gv.c) ∧ X.cell? ⟨bg, 3, none⟩ = some (.int .i64 gv.n) ∧ X.cell? ⟨bg, 4, none⟩ = some (.string gv.v) ∧ X.cell? ⟨bg, 5, none⟩ = some (.bool gv.d) ∧ X.cell? ⟨bg, 6, none⟩ = some (.int .i64 gs.n) ∧ X.cell? ⟨bg, 7, none⟩ = some (.int .u64 gs.a) ∧ X.cell? ⟨bg, 8, none⟩ = some (.int .u64 gs.b) ∧ X.cell? ⟨bg, 10, none⟩ = some (.pointer grp) := by
  obtain ⟨r0, r1, r2, r3, r4, r5, r6, r7, r8⟩ := h.cells
  obtain ⟨g0, g1, g2, g3, g4, g5, g6, g7, g8, -, g10, -, -, -, -, -⟩ := nodeE (h.stay _ _ hg)
  skip
  exact ⟨r0, r1, r2, r3, r4, r5, r6, r7, r8, g0, g1, g2, g3, g4, g5, g6, g7, g8, g10⟩
set_option maxHeartbeats 3200000 in
set_option maxRecDepth 100000 in
theorem turnLAE {jv : Value} {c : Option Nat} (HB : BothOkE jv c) {w : World} {tb n : Nat} {root : Option Addr} (k : ByteArray) (v : En) (s : Tl) {gk : ByteArray} {gv : En} {gs gq : Tl} {bg : Nat} {glp grp op : Option Addr} {gc gh : Int} {gl gr o : Tr En Tl} 
    (ht : TObjE w tb jv root) (hc : CntE c n w) (hg : w.heap[bg]? = some (.cells #[.string gk, .string gv.k, .int .i64 gv.c, .int .i64 gv.n, .string gv.v, .bool gv.d, .int .i64 gs.n, .int .u64 gs.a, .int .u64 gs.b, .pointer glp, .pointer grp, .int .i64 gc, .int .i64 gh, .int .i64 gq.n, .int .u64 gq.a, .int .u64 gq.b] 135 (0, 0))) (hgr : IsTE w grp gr) (hgl : IsTE w glp gl) (ho : IsTE w op o) (hcmp : gl.ht ≤ gr.ht) (hw0 : (Tr.node o k v s gl).wt tSz ≤ 4611686018427387904) (hw1 : (Tr.node (Tr.node o k v s gl) gk gv gs gr).wt tSz ≤ 4611686018427387904) :
    Calls Tryd.prog 117 #[.pointer (some ⟨tb, 0, none⟩), .agg #[.string k, .string v.k, .int .i64 v.c, .int .i64 v.n, .string v.v, .bool v.d, .int .i64 s.n, .int .u64 s.a, .int .u64 s.b], .pointer op, .pointer (some ⟨bg, 0, none⟩)] w fun e w' => ∃ p, e = .returned (.pointer p) ∧ IsTE w' p (Tr.node (Tr.node o k v s gl) gk gv gs gr) ∧ CntE c ((n + Tr.hangC o gl) + Tr.hangC (Tr.node o k v s gl) gr) w' ∧ Keeps (OnC c) w w' := by
  have H := aside (lstE k v s ht hc)
  have HC := aside hc
  have HG := aside hg
  skip
  have CO := aside (fun (W : World) (h : Stay 135 w W) => levelsE (hgr.on h))
  have CI := aside (fun (W : World) (h : Stay 135 w W) => levelsE (hgl.on h))
  have hcm : (gl.ht : Int) ≤ (gr.ht : Int) := by omega
  generalize (gr.ht : Int) = ho1 at *
  generalize (gl.ht : Int) = hi1 at *
  have h1 := nodeE (H.out.stay _ _ hg)
  obtain ⟨-, -, -, -, -, -, -, -, -, g9, g10, -, -, -, -, -⟩ := h1
  clear ht hc hg hcmp
  go_enter Tryd.func117, Tryd.ntmps117
  go_wp2_with fail
  refine (CO.out _ H.out.stay).mono ?_
  rintro e w1 ⟨rfl, rfl⟩
  go_wp2_with fail
  refine (CI.out _ H.out.stay).mono ?_
  rintro e w1 ⟨rfl, rfl⟩
  go_wp2_with fail
  clear g9 g10 CO CI
  generalize w.alloc (.cells #[.string k, .string v.k, .int .i64 v.c, .int .i64 v.n, .string v.v, .bool v.d, .int .i64 s.n, .int .u64 s.a, .int .u64 s.b] 133) = V at *
  refine wp_region_held_drew (S := fun X => X.cell? ⟨w.heap.size, 0, none⟩ = some (.string k) ∧ X.cell? ⟨w.heap.size, 1, none⟩ = some (.string v.k) ∧ X.cell? ⟨w.heap.size, 2, none⟩ = some (.int .i64 v.c) ∧ X.cell? ⟨w.heap.size, 3, none⟩ = some (.int .i64 v.n) ∧ X.cell? ⟨w.heap.size, 4, none⟩ = some (.string v.v) ∧ X.cell? ⟨w.heap.size, 5, none⟩ = some (.bool v.d) ∧ X.cell? ⟨w.heap.size, 6, none⟩ = some (.int .i64 s.n) ∧ X.cell? ⟨w.heap.size, 7, none⟩ = some (.int .u64 s.a) ∧ X.cell? ⟨w.heap.size, 8, none⟩ = some (.int .u64 s.b) ∧ X.cell? ⟨bg, 0, none⟩ = some (.string gk) ∧ X.cell? ⟨bg, 1, none⟩ = some (.string gv.k) ∧ X.cell? ⟨bg, 2, none⟩ = some (.int .i64 gv.c) ∧ X.cell? ⟨bg, 3, none⟩ = some (.int .i64 gv.n) ∧ X.cell? ⟨bg, 4, none⟩ = some (.string gv.v) ∧ X.cell? ⟨bg, 5, none⟩ = some (.bool gv.d) ∧ X.cell? ⟨bg, 6, none⟩ = some (.int .i64 gs.n) ∧ X.cell? ⟨bg, 7, none⟩ = some (.int .u64 gs.a) ∧ X.cell? ⟨bg, 8, none⟩ = some (.int .u64 gs.b) ∧ X.cell? ⟨bg, 10, none⟩ = some (.pointer grp)) (by kernel_rfl) (turnLAE_held H.out.drew HG.out) (fun hHeld => ?_)
  refine wpAnyH_take (i := 0) (v := ?_) rfl (by kernel_rfl) (by kernel_rfl) (by kernel_rfl) (fun _ _ _ h => h) (Or.inl ⟨by rfl, ?_⟩) (by assumption) ?_
  rotate_left
  · intro w hSw
    go_simp
    try with_reducible rfl
  simp only [Act.put, List.getElem_toArray, List.getElem_cons_zero, List.setIfInBounds_toArray, List.set_cons_zero, List.set_cons_succ]
  refine wpAnyH_take (i := 1) (v := ?_) rfl (by kernel_rfl) (by kernel_rfl) (by kernel_rfl) (fun _ _ _ h => h) (Or.inl ⟨by rfl, ?_⟩) (by assumption) ?_
  rotate_left
  · intro w hSw
    go_simp
    try with_reducible rfl
  simp only [Act.put, List.getElem_toArray, List.getElem_cons_zero, List.getElem_cons_succ, List.setIfInBounds_toArray, List.set_cons_zero, List.set_cons_succ]
  refine wpAnyH_take (i := 2) (v := ?_) rfl (by kernel_rfl) (by kernel_rfl) (by kernel_rfl) (fun _ _ _ h => h) (Or.inl ⟨by rfl, ?_⟩) (by assumption) ?_
  rotate_left
  · intro w hSw
    go_simp
    try with_reducible rfl
  simp only [Act.put, List.getElem_toArray, List.getElem_cons_zero, List.getElem_cons_succ, List.setIfInBounds_toArray, List.set_cons_zero, List.set_cons_succ]
  refine wpAnyH_take (i := 3) (v := ?_) rfl (by kernel_rfl) (by kernel_rfl) (by kernel_rfl) (fun _ _ _ h => h) (Or.inl ⟨by rfl, ?_⟩) (by assumption) ?_
  rotate_left
  · intro w hSw
    go_simp
    try with_reducible rfl
  simp only [Act.put, List.getElem_toArray, List.getElem_cons_zero, List.getElem_cons_succ, List.setIfInBounds_toArray, List.set_cons_zero, List.set_cons_succ]
  refine wpAnyH_take (i := 4) (v := ?_) rfl (by kernel_rfl) (by kernel_rfl) (by kernel_rfl) (fun _ _ _ h => h) (Or.inl ⟨by rfl, ?_⟩) (by assumption) ?_
  rotate_left
  · intro w hSw
    go_simp
    try with_reducible rfl
  simp only [Act.put, List.getElem_toArray, List.getElem_cons_zero, List.getElem_cons_succ, List.setIfInBounds_toArray, List.set_cons_zero, List.set_cons_succ]
  refine wpAnyH_take (i := 5) (v := ?_) rfl (by kernel_rfl) (by kernel_rfl) (by kernel_rfl) (fun _ _ _ h => h) (Or.inl ⟨by rfl, ?_⟩) (by assumption) ?_
  rotate_left
  · intro w hSw
    go_simp
    try with_reducible rfl
  simp only [Act.put, List.getElem_toArray, List.getElem_cons_zero, List.getElem_cons_succ, List.setIfInBounds_toArray, List.set_cons_zero, List.set_cons_succ]
  refine wpAnyH_take (i := 6) (v := ?_) rfl (by kernel_rfl) (by kernel_rfl) (by kernel_rfl) (fun _ _ _ h => h) (Or.inl ⟨by rfl, ?_⟩) (by assumption) ?_
  rotate_left
  · intro w hSw
    go_simp
    try with_reducible rfl
  simp only [Act.put, List.getElem_toArray, List.getElem_cons_zero, List.getElem_cons_succ, List.setIfInBounds_toArray, List.set_cons_zero, List.set_cons_succ]
  refine wpAnyH_take (i := 7) (v := ?_) rfl (by kernel_rfl) (by kernel_rfl) (by kernel_rfl) (fun _ _ _ h => h) (Or.inl ⟨by rfl, ?_⟩) (by assumption) ?_
  rotate_left
  · intro w hSw
    go_simp
    try with_reducible rfl
  simp only [Act.put, List.getElem_toArray, List.getElem_cons_zero, List.getElem_cons_succ, List.setIfInBounds_toArray, List.set_cons_zero, List.set_cons_succ]
  refine wpAnyH_take (i := 8) (v := ?_) rfl (by kernel_rfl) (by kernel_rfl) (by kernel_rfl) (fun _ _ _ h => h) (Or.inl ⟨by rfl, ?_⟩) (by assumption) ?_
  rotate_left
  · intro w hSw
    go_simp
    try with_reducible rfl
  simp only [Act.put, List.getElem_toArray, List.getElem_cons_zero, List.getElem_cons_succ, List.setIfInBounds_toArray, List.set_cons_zero, List.set_cons_succ]
  refine wpAnyH_take (i := 10) (v := ?_) rfl (by kernel_rfl) (by kernel_rfl) (by kernel_rfl) (fun _ _ _ h => h) (Or.inl ⟨by rfl, ?_⟩) (by assumption) ?_
  rotate_left
  · intro w hSw
    go_simp
    try with_reducible rfl
  simp only [Act.put, List.getElem_toArray, List.getElem_cons_zero, List.getElem_cons_succ, List.setIfInBounds_toArray, List.set_cons_zero, List.set_cons_succ]
  refine wpAnyH_take (i := 11) (v := ?_) rfl (by kernel_rfl) (by kernel_rfl) (by kernel_rfl) (fun _ _ _ h => h) (Or.inl ⟨by rfl, ?_⟩) (by assumption) ?_
  rotate_left
  · intro w hSw
    go_simp
    try with_reducible rfl
  simp only [Act.put, List.getElem_toArray, List.getElem_cons_zero, List.getElem_cons_succ, List.setIfInBounds_toArray, List.set_cons_zero, List.set_cons_succ]
  refine wpAnyH_take (i := 12) (v := ?_) rfl (by kernel_rfl) (by kernel_rfl) (by kernel_rfl) (fun _ _ _ h => h) (Or.inl ⟨by rfl, ?_⟩) (by assumption) ?_
  rotate_left
  · intro w hSw
    go_simp
    try with_reducible rfl
  simp only [Act.put, List.getElem_toArray, List.getElem_cons_zero, List.getElem_cons_succ, List.setIfInBounds_toArray, List.set_cons_zero, List.set_cons_succ]
  refine wpAnyH_take (i := 13) (v := ?_) rfl (by kernel_rfl) (by kernel_rfl) (by kernel_rfl) (fun _ _ _ h => h) (Or.inl ⟨by rfl, ?_⟩) (by assumption) ?_
  rotate_left
  · intro w hSw
    go_simp
    try with_reducible rfl
  simp only [Act.put, List.getElem_toArray, List.getElem_cons_zero, List.getElem_cons_succ, List.setIfInBounds_toArray, List.set_cons_zero, List.set_cons_succ]
  refine wpAnyH_ready (rs := [9]) (by kernel_rfl) (by simp) ?_
  refine AllReadyH.cons rfl (fun K hK => ?_) AllReadyH.nil
  go_simp
  refine (hangE HB k v s H.out.drew.tobj H.out.drew.cnt (ho.on H.out.drew.stay) (hgl.on H.out.drew.stay) hw0).mono ?_
  rintro e w9 ⟨p1, rfl, ii, bc, kk⟩
  refine hK.out _ _ (turnLAE_held (H.out.drew.on HC.out kk bc) HG.out) (fun hHeld => ?_)
  clear hK K 
  have H1 := aside (H.out.drew.on HC.out kk bc)
  have I1 := aside ii
  clear ii bc kk
  refine wpAnyH_ready (rs := [14]) (by kernel_rfl) (by simp) ?_
  refine AllReadyH.cons rfl (fun K hK => ?_) AllReadyH.nil
  go_simp
  refine (hangE HB gk gv gs H1.out.tobj H1.out.cnt I1.out (hgr.on H1.out.stay) hw1).mono ?_
  rintro e w9 ⟨p2, rfl, ii, bc, kk⟩
  refine hK.out _ _ (turnLAE_held (H1.out.on HC.out kk bc) HG.out) (fun hHeld => ?_)
  clear hK K 
  have H2 := aside (H1.out.on HC.out kk bc)
  have I2 := aside ii
  clear ii bc kk
  refine wpAnyH_take (i := 15) (v := ?_) rfl (by kernel_rfl) (by kernel_rfl) (by kernel_rfl) (fun _ _ _ h => h) (Or.inl ⟨by rfl, ?_⟩) (by assumption) ?_
  rotate_left
  · intro w hSw
    go_simp
    try with_reducible rfl
  simp only [Act.put, List.getElem_toArray, List.getElem_cons_zero, List.getElem_cons_succ, List.setIfInBounds_toArray, List.set_cons_zero, List.set_cons_succ]
  refine wpAnyH_done (by kernel_rfl) ?_ _
  go_wp2
  exact bodyPost_ret (v := .pointer p2) (by simp [results, Tryd.results117, go_sem]) rfl ⟨p2, rfl, I2.out, H2.out.cnt, H2.out.keeps⟩
end Go.Proofs.YtoflalflacopdaaDoor
namespace Go.Proofs.YtoflalflacopdaaDoor
open Go.RowKit
set_option linter.unusedVariables false
theorem turnLBE_held {w X : World} {tb n : Nat} {jv : Value} {root : Option Addr} {c : Option Nat} {k gk : ByteArray} {v gv : En} {s gs gq : Tl} {bg : Nat} {grp : Option Addr} {gc gh : Int} {bi : Nat} {ik : ByteArray} {iv : En} {is iq : Tl} {ap bp : Option Addr} {ic ih : Int} (h : LStE w X tb n jv root c k v s) (hg : w.heap[bg]? = some (.cells #[.string gk, .string gv.k, .int .i64 gv.c, .int .i64 gv.n, .string gv.v, .bool gv.d, .int .i64 gs.n, .int .u64 gs.a, .int .u64 gs.b, .pointer (some ⟨bi, 0, none⟩), .pointer grp, .int .i64 gc, .int .i64 gh, .int .i64 gq.n, .int .u64 gq.a, .int .u64 gq.b] 135 (0, 0))) (hi : w.heap[bi]? = some (.cells #[.string ik, .string iv.k, .int .i64 iv.c, .int .i64 iv.n, .string iv.v, .bool iv.d, .int .i64 is.n, .int .u64 is.a, .int .u64 is.b, .pointer ap, .pointer bp, .int .i64 ic, .int .i64 ih, .int .i64 iq.n, .int .u64 iq.a, .int .u64 iq.b] 135 (0, 0))) : X.cell? ⟨w.heap.size, 0, none⟩ = some (.string k) ∧ X.cell? ⟨w.heap.size, 1, none⟩ = some (.string v.k) ∧ X.cell? ⟨w.heap.size, 2, none⟩ = some (.int .i64 v.c) ∧ X.cell? ⟨w.heap.size, 3, none⟩ = some (.int .i64 v.n) ∧ X.cell? ⟨w.heap.size, 4, none⟩ = some (.string v.v) ∧ X.cell? ⟨w.heap.size, 5, none⟩ = some (.bool v.d) ∧ X.cell? ⟨w.heap.size, 6, none⟩ = some (.int .i64 s.n) ∧ X.cell? ⟨w.heap.size, 7, none⟩ = some (.int .u64 s.a) ∧ X.cell? ⟨w.heap.size, 8, none⟩ = some (.int .u64 s.b) ∧ X.cell? ⟨bg, 0, none⟩ = some (.string gk) ∧ X.cell? ⟨bg, 1, none⟩ = some (.string gv.k) ∧ X.cell? ⟨bg, 2, none⟩ = some (.int .i64 gv.c) ∧ X.cell? ⟨bg, 3, none⟩ = some (.int .i64 gv.n) ∧ X.cell? ⟨bg, 4, none⟩ = some (.string gv.v) ∧ X.cell? ⟨bg, 5, none⟩ = some (.bool gv.d) ∧ X.cell? ⟨bg, 6, none⟩ = some (.int .i64 gs.n) ∧ X.cell? ⟨bg, 7, none⟩ = some (.int .u64 gs.a) ∧ X.cell? ⟨bg, 8, none⟩ = some (.int .u64 gs.b) ∧ X.cell? ⟨bg, 10, none⟩ = some (.pointer grp) ∧ X.cell? ⟨bi, 0, none⟩ = some (.string ik) ∧ X.cell? ⟨bi, 1, none⟩ = some (.string iv.k) ∧ X.cell? ⟨bi, 2, none⟩ = some (.int .i64 iv.c) ∧ X.cell? ⟨bi, 3, none⟩ = some (.int .i64 iv.n) ∧ X.cell? ⟨bi, 4, none⟩ = some (.string iv.v) ∧ X.cell? ⟨bi, 5, none⟩ = some (.bool iv.d) ∧ X.cell? ⟨bi, 6, none⟩ = some (.int .i64 is.n) ∧ X.cell? ⟨bi, 7, none⟩ = some (.int .u64 is.a) ∧ X.cell? ⟨bi, 8, none⟩ = some (.int .u64 is.b) ∧ X.cell? ⟨bi, 9, none⟩ = some (.pointer ap) ∧ X.cell? ⟨bi, 10, none⟩ = some (.pointer bp) := by
  obtain ⟨r0, r1, r2, r3, r4, r5, r6, r7, r8⟩ := h.cells
  obtain ⟨g0, g1, g2, g3, g4, g5, g6, g7, g8, -, g10, -, -, -, -, -⟩ := nodeE (h.stay _ _ hg)
  obtain ⟨i0, i1, i2, i3, i4, i5, i6, i7, i8, i9, i10, -, -, -, -, -⟩ := nodeE (h.stay _ _ hi)
  exact ⟨r0, r1, r2, r3, r4, r5, r6, r7, r8, g0, g1, g2, g3, g4, g5, g6, g7, g8, g10, i0, i1, i2, i3, i4, i5, i6, i7, i8, i9, i10⟩
set_option maxHeartbeats 3200000 in
set_option maxRecDepth 100000 in
theorem turnLBE {jv : Value} {c : Option Nat} (HB : BothOkE jv c) {w : World} {tb n : Nat} {root : Option Addr} (k : ByteArray) (v : En) (s : Tl) {gk : ByteArray} {gv : En} {gs gq : Tl} {bg : Nat} {grp op : Option Addr} {gc gh : Int} {bi : Nat} {ik : ByteArray} {iv : En} {is iq : Tl} {ap bp : Option Addr} {ic ih : Int} {a b : Tr En Tl} {gr o inn : Tr En Tl} 
    (ht : TObjE w tb jv root) (hc : CntE c n w) (hg : w.heap[bg]? = some (.cells #[.string gk, .string gv.k, .int .i64 gv.c, .int .i64 gv.n, .string gv.v, .bool gv.d, .int .i64 gs.n, .int .u64 gs.a, .int .u64 gs.b, .pointer (some ⟨bi, 0, none⟩), .pointer grp, .int .i64 gc, .int .i64 gh, .int .i64 gq.n, .int .u64 gq.a, .int .u64 gq.b] 135 (0, 0))) (hi : w.heap[bi]? = some (.cells #[.string ik, .string iv.k, .int .i64 iv.c, .int .i64 iv.n, .string iv.v, .bool iv.d, .int .i64 is.n, .int .u64 is.a, .int .u64 is.b, .pointer ap, .pointer bp, .int .i64 ic, .int .i64 ih, .int .i64 iq.n, .int .u64 iq.a, .int .u64 iq.b] 135 (0, 0))) (hgr : IsTE w grp gr) (ha : IsTE w ap a) (hb : IsTE w bp b) (hin : IsTE w (some ⟨bi, 0, none⟩) inn) (ho : IsTE w op o) (hcmp : gr.ht < inn.ht) (hw0 : (Tr.node o k v s a).wt tSz ≤ 4611686018427387904) (hw1 : (Tr.node b gk gv gs gr).wt tSz ≤ 4611686018427387904) (hw2 : (Tr.node (Tr.node o k v s a) ik iv is (Tr.node b gk gv gs gr)).wt tSz ≤ 4611686018427387904) :
    Calls Tryd.prog 117 #[.pointer (some ⟨tb, 0, none⟩), .agg #[.string k, .string v.k, .int .i64 v.c, .int .i64 v.n, .string v.v, .bool v.d, .int .i64 s.n, .int .u64 s.a, .int .u64 s.b], .pointer op, .pointer (some ⟨bg, 0, none⟩)] w fun e w' => ∃ p, e = .returned (.pointer p) ∧ IsTE w' p (Tr.node (Tr.node o k v s a) ik iv is (Tr.node b gk gv gs gr)) ∧ CntE c (((n + Tr.hangC o a) + Tr.hangC b gr) + Tr.hangC (Tr.node o k v s a) (Tr.node b gk gv gs gr)) w' ∧ Keeps (OnC c) w w' := by
  have H := aside (lstE k v s ht hc)
  have HC := aside hc
  have HG := aside hg
  have HI := aside hi
  have CO := aside (fun (W : World) (h : Stay 135 w W) => levelsE (hgr.on h))
  have CI := aside (fun (W : World) (h : Stay 135 w W) => levelsE (hin.on h))
  have hcm : ¬ (inn.ht : Int) ≤ (gr.ht : Int) := by omega
  generalize (gr.ht : Int) = ho1 at *
  generalize (inn.ht : Int) = hi1 at *
  have h1 := nodeE (H.out.stay _ _ hg)
  obtain ⟨-, -, -, -, -, -, -, -, -, g9, g10, -, -, -, -, -⟩ := h1
  clear ht hc hg hi hcmp
  go_enter Tryd.func117, Tryd.ntmps117
  go_wp2_with fail
  refine (CO.out _ H.out.stay).mono ?_
  rintro e w1 ⟨rfl, rfl⟩
  go_wp2_with fail
  refine (CI.out _ H.out.stay).mono ?_
  rintro e w1 ⟨rfl, rfl⟩
  go_wp2_with fail
  clear g9 g10 CO CI
  generalize w.alloc (.cells #[.string k, .string v.k, .int .i64 v.c, .int .i64 v.n, .string v.v, .bool v.d, .int .i64 s.n, .int .u64 s.a, .int .u64 s.b] 133) = V at *
  refine wp_region_held_drew (S := fun X => X.cell? ⟨w.heap.size, 0, none⟩ = some (.string k) ∧ X.cell? ⟨w.heap.size, 1, none⟩ = some (.string v.k) ∧ X.cell? ⟨w.heap.size, 2, none⟩ = some (.int .i64 v.c) ∧ X.cell? ⟨w.heap.size, 3, none⟩ = some (.int .i64 v.n) ∧ X.cell? ⟨w.heap.size, 4, none⟩ = some (.string v.v) ∧ X.cell? ⟨w.heap.size, 5, none⟩ = some (.bool v.d) ∧ X.cell? ⟨w.heap.size, 6, none⟩ = some (.int .i64 s.n) ∧ X.cell? ⟨w.heap.size, 7, none⟩ = some (.int .u64 s.a) ∧ X.cell? ⟨w.heap.size, 8, none⟩ = some (.int .u64 s.b) ∧ X.cell? ⟨bg, 0, none⟩ = some (.string gk) ∧ X.cell? ⟨bg, 1, none⟩ = some (.string gv.k) ∧ X.cell? ⟨bg, 2, none⟩ = some (.int .i64 gv.c) ∧ X.cell? ⟨bg, 3, none⟩ = some (.int .i64 gv.n) ∧ X.cell? ⟨bg, 4, none⟩ = some (.string gv.v) ∧ X.cell? ⟨bg, 5, none⟩ = some (.bool gv.d) ∧ X.cell? ⟨bg, 6, none⟩ = some (.int .i64 gs.n) ∧ X.cell? ⟨bg, 7, none⟩ = some (.int .u64 gs.a) ∧ X.cell? ⟨bg, 8, none⟩ = some (.int .u64 gs.b) ∧ X.cell? ⟨bg, 10, none⟩ = some (.pointer grp) ∧ X.cell? ⟨bi, 0, none⟩ = some (.string ik) ∧ X.cell? ⟨bi, 1, none⟩ = some (.string iv.k) ∧ X.cell? ⟨bi, 2, none⟩ = some (.int .i64 iv.c) ∧ X.cell? ⟨bi, 3, none⟩ = some (.int .i64 iv.n) ∧ X.cell? ⟨bi, 4, none⟩ = some (.string iv.v) ∧ X.cell? ⟨bi, 5, none⟩ = some (.bool iv.d) ∧ X.cell? ⟨bi, 6, none⟩ = some (.int .i64 is.n) ∧ X.cell? ⟨bi, 7, none⟩ = some (.int .u64 is.a) ∧ X.cell? ⟨bi, 8, none⟩ = some (.int .u64 is.b) ∧ X.cell? ⟨bi, 9, none⟩ = some (.pointer ap) ∧ X.cell? ⟨bi, 10, none⟩ = some (.pointer bp)) (by kernel_rfl) (turnLBE_held H.out.drew HG.out HI.out) (fun hHeld => ?_)
  refine wpAnyH_take (i := 0) (v := ?_) rfl (by kernel_rfl) (by kernel_rfl) (by kernel_rfl) (fun _ _ _ h => h) (Or.inl ⟨by rfl, ?_⟩) (by assumption) ?_
  rotate_left
  · intro w hSw
    go_simp
    try with_reducible rfl
  simp only [Act.put, List.getElem_toArray, List.getElem_cons_zero, List.setIfInBounds_toArray, List.set_cons_zero, List.set_cons_succ]
  refine wpAnyH_take (i := 1) (v := ?_) rfl (by kernel_rfl) (by kernel_rfl) (by kernel_rfl) (fun _ _ _ h => h) (Or.inl ⟨by rfl, ?_⟩) (by assumption) ?_
  rotate_left
  · intro w hSw
    go_simp
    try with_reducible rfl
  simp only [Act.put, List.getElem_toArray, List.getElem_cons_zero, List.getElem_cons_succ, List.setIfInBounds_toArray, List.set_cons_zero, List.set_cons_succ]
  refine wpAnyH_take (i := 2) (v := ?_) rfl (by kernel_rfl) (by kernel_rfl) (by kernel_rfl) (fun _ _ _ h => h) (Or.inl ⟨by rfl, ?_⟩) (by assumption) ?_
  rotate_left
  · intro w hSw
    go_simp
    try with_reducible rfl
  simp only [Act.put, List.getElem_toArray, List.getElem_cons_zero, List.getElem_cons_succ, List.setIfInBounds_toArray, List.set_cons_zero, List.set_cons_succ]
  refine wpAnyH_take (i := 3) (v := ?_) rfl (by kernel_rfl) (by kernel_rfl) (by kernel_rfl) (fun _ _ _ h => h) (Or.inl ⟨by rfl, ?_⟩) (by assumption) ?_
  rotate_left
  · intro w hSw
    go_simp
    try with_reducible rfl
  simp only [Act.put, List.getElem_toArray, List.getElem_cons_zero, List.getElem_cons_succ, List.setIfInBounds_toArray, List.set_cons_zero, List.set_cons_succ]
  refine wpAnyH_take (i := 4) (v := ?_) rfl (by kernel_rfl) (by kernel_rfl) (by kernel_rfl) (fun _ _ _ h => h) (Or.inl ⟨by rfl, ?_⟩) (by assumption) ?_
  rotate_left
  · intro w hSw
    go_simp
    try with_reducible rfl
  simp only [Act.put, List.getElem_toArray, List.getElem_cons_zero, List.getElem_cons_succ, List.setIfInBounds_toArray, List.set_cons_zero, List.set_cons_succ]
  refine wpAnyH_take (i := 5) (v := ?_) rfl (by kernel_rfl) (by kernel_rfl) (by kernel_rfl) (fun _ _ _ h => h) (Or.inl ⟨by rfl, ?_⟩) (by assumption) ?_
  rotate_left
  · intro w hSw
    go_simp
    try with_reducible rfl
  simp only [Act.put, List.getElem_toArray, List.getElem_cons_zero, List.getElem_cons_succ, List.setIfInBounds_toArray, List.set_cons_zero, List.set_cons_succ]
  refine wpAnyH_take (i := 6) (v := ?_) rfl (by kernel_rfl) (by kernel_rfl) (by kernel_rfl) (fun _ _ _ h => h) (Or.inl ⟨by rfl, ?_⟩) (by assumption) ?_
  rotate_left
  · intro w hSw
    go_simp
    try with_reducible rfl
  simp only [Act.put, List.getElem_toArray, List.getElem_cons_zero, List.getElem_cons_succ, List.setIfInBounds_toArray, List.set_cons_zero, List.set_cons_succ]
  refine wpAnyH_take (i := 7) (v := ?_) rfl (by kernel_rfl) (by kernel_rfl) (by kernel_rfl) (fun _ _ _ h => h) (Or.inl ⟨by rfl, ?_⟩) (by assumption) ?_
  rotate_left
  · intro w hSw
    go_simp
    try with_reducible rfl
  simp only [Act.put, List.getElem_toArray, List.getElem_cons_zero, List.getElem_cons_succ, List.setIfInBounds_toArray, List.set_cons_zero, List.set_cons_succ]
  refine wpAnyH_take (i := 8) (v := ?_) rfl (by kernel_rfl) (by kernel_rfl) (by kernel_rfl) (fun _ _ _ h => h) (Or.inl ⟨by rfl, ?_⟩) (by assumption) ?_
  rotate_left
  · intro w hSw
    go_simp
    try with_reducible rfl
  simp only [Act.put, List.getElem_toArray, List.getElem_cons_zero, List.getElem_cons_succ, List.setIfInBounds_toArray, List.set_cons_zero, List.set_cons_succ]
  refine wpAnyH_take (i := 9) (v := ?_) rfl (by kernel_rfl) (by kernel_rfl) (by kernel_rfl) (fun _ _ _ h => h) (Or.inl ⟨by rfl, ?_⟩) (by assumption) ?_
  rotate_left
  · intro w hSw
    go_simp
    try with_reducible rfl
  simp only [Act.put, List.getElem_toArray, List.getElem_cons_zero, List.getElem_cons_succ, List.setIfInBounds_toArray, List.set_cons_zero, List.set_cons_succ]
  refine wpAnyH_take (i := 10) (v := ?_) rfl (by kernel_rfl) (by kernel_rfl) (by kernel_rfl) (fun _ _ _ h => h) (Or.inl ⟨by rfl, ?_⟩) (by assumption) ?_
  rotate_left
  · intro w hSw
    go_simp
    try with_reducible rfl
  simp only [Act.put, List.getElem_toArray, List.getElem_cons_zero, List.getElem_cons_succ, List.setIfInBounds_toArray, List.set_cons_zero, List.set_cons_succ]
  refine wpAnyH_take (i := 11) (v := ?_) rfl (by kernel_rfl) (by kernel_rfl) (by kernel_rfl) (fun _ _ _ h => h) (Or.inl ⟨by rfl, ?_⟩) (by assumption) ?_
  rotate_left
  · intro w hSw
    go_simp
    try with_reducible rfl
  simp only [Act.put, List.getElem_toArray, List.getElem_cons_zero, List.getElem_cons_succ, List.setIfInBounds_toArray, List.set_cons_zero, List.set_cons_succ]
  refine wpAnyH_take (i := 13) (v := ?_) rfl (by kernel_rfl) (by kernel_rfl) (by kernel_rfl) (fun _ _ _ h => h) (Or.inl ⟨by rfl, ?_⟩) (by assumption) ?_
  rotate_left
  · intro w hSw
    go_simp
    try with_reducible rfl
  simp only [Act.put, List.getElem_toArray, List.getElem_cons_zero, List.getElem_cons_succ, List.setIfInBounds_toArray, List.set_cons_zero, List.set_cons_succ]
  refine wpAnyH_take (i := 14) (v := ?_) rfl (by kernel_rfl) (by kernel_rfl) (by kernel_rfl) (fun _ _ _ h => h) (Or.inl ⟨by rfl, ?_⟩) (by assumption) ?_
  rotate_left
  · intro w hSw
    go_simp
    try with_reducible rfl
  simp only [Act.put, List.getElem_toArray, List.getElem_cons_zero, List.getElem_cons_succ, List.setIfInBounds_toArray, List.set_cons_zero, List.set_cons_succ]
  refine wpAnyH_take (i := 15) (v := ?_) rfl (by kernel_rfl) (by kernel_rfl) (by kernel_rfl) (fun _ _ _ h => h) (Or.inl ⟨by rfl, ?_⟩) (by assumption) ?_
  rotate_left
  · intro w hSw
    go_simp
    try with_reducible rfl
  simp only [Act.put, List.getElem_toArray, List.getElem_cons_zero, List.getElem_cons_succ, List.setIfInBounds_toArray, List.set_cons_zero, List.set_cons_succ]
  refine wpAnyH_take (i := 16) (v := ?_) rfl (by kernel_rfl) (by kernel_rfl) (by kernel_rfl) (fun _ _ _ h => h) (Or.inl ⟨by rfl, ?_⟩) (by assumption) ?_
  rotate_left
  · intro w hSw
    go_simp
    try with_reducible rfl
  simp only [Act.put, List.getElem_toArray, List.getElem_cons_zero, List.getElem_cons_succ, List.setIfInBounds_toArray, List.set_cons_zero, List.set_cons_succ]
  refine wpAnyH_take (i := 17) (v := ?_) rfl (by kernel_rfl) (by kernel_rfl) (by kernel_rfl) (fun _ _ _ h => h) (Or.inl ⟨by rfl, ?_⟩) (by assumption) ?_
  rotate_left
  · intro w hSw
    go_simp
    try with_reducible rfl
  simp only [Act.put, List.getElem_toArray, List.getElem_cons_zero, List.getElem_cons_succ, List.setIfInBounds_toArray, List.set_cons_zero, List.set_cons_succ]
  refine wpAnyH_take (i := 18) (v := ?_) rfl (by kernel_rfl) (by kernel_rfl) (by kernel_rfl) (fun _ _ _ h => h) (Or.inl ⟨by rfl, ?_⟩) (by assumption) ?_
  rotate_left
  · intro w hSw
    go_simp
    try with_reducible rfl
  simp only [Act.put, List.getElem_toArray, List.getElem_cons_zero, List.getElem_cons_succ, List.setIfInBounds_toArray, List.set_cons_zero, List.set_cons_succ]
  refine wpAnyH_take (i := 19) (v := ?_) rfl (by kernel_rfl) (by kernel_rfl) (by kernel_rfl) (fun _ _ _ h => h) (Or.inl ⟨by rfl, ?_⟩) (by assumption) ?_
  rotate_left
  · intro w hSw
    go_simp
    try with_reducible rfl
  simp only [Act.put, List.getElem_toArray, List.getElem_cons_zero, List.getElem_cons_succ, List.setIfInBounds_toArray, List.set_cons_zero, List.set_cons_succ]
  refine wpAnyH_take (i := 20) (v := ?_) rfl (by kernel_rfl) (by kernel_rfl) (by kernel_rfl) (fun _ _ _ h => h) (Or.inl ⟨by rfl, ?_⟩) (by assumption) ?_
  rotate_left
  · intro w hSw
    go_simp
    try with_reducible rfl
  simp only [Act.put, List.getElem_toArray, List.getElem_cons_zero, List.getElem_cons_succ, List.setIfInBounds_toArray, List.set_cons_zero, List.set_cons_succ]
  refine wpAnyH_take (i := 21) (v := ?_) rfl (by kernel_rfl) (by kernel_rfl) (by kernel_rfl) (fun _ _ _ h => h) (Or.inl ⟨by rfl, ?_⟩) (by assumption) ?_
  rotate_left
  · intro w hSw
    go_simp
    try with_reducible rfl
  simp only [Act.put, List.getElem_toArray, List.getElem_cons_zero, List.getElem_cons_succ, List.setIfInBounds_toArray, List.set_cons_zero, List.set_cons_succ]
  refine wpAnyH_take (i := 22) (v := ?_) rfl (by kernel_rfl) (by kernel_rfl) (by kernel_rfl) (fun _ _ _ h => h) (Or.inl ⟨by rfl, ?_⟩) (by assumption) ?_
  rotate_left
  · intro w hSw
    go_simp
    try with_reducible rfl
  simp only [Act.put, List.getElem_toArray, List.getElem_cons_zero, List.getElem_cons_succ, List.setIfInBounds_toArray, List.set_cons_zero, List.set_cons_succ]
  refine wpAnyH_take (i := 23) (v := ?_) rfl (by kernel_rfl) (by kernel_rfl) (by kernel_rfl) (fun _ _ _ h => h) (Or.inl ⟨by rfl, ?_⟩) (by assumption) ?_
  rotate_left
  · intro w hSw
    go_simp
    try with_reducible rfl
  simp only [Act.put, List.getElem_toArray, List.getElem_cons_zero, List.getElem_cons_succ, List.setIfInBounds_toArray, List.set_cons_zero, List.set_cons_succ]
  refine wpAnyH_take (i := 24) (v := ?_) rfl (by kernel_rfl) (by kernel_rfl) (by kernel_rfl) (fun _ _ _ h => h) (Or.inl ⟨by rfl, ?_⟩) (by assumption) ?_
  rotate_left
  · intro w hSw
    go_simp
    try with_reducible rfl
  simp only [Act.put, List.getElem_toArray, List.getElem_cons_zero, List.getElem_cons_succ, List.setIfInBounds_toArray, List.set_cons_zero, List.set_cons_succ]
  refine wpAnyH_take (i := 25) (v := ?_) rfl (by kernel_rfl) (by kernel_rfl) (by kernel_rfl) (fun _ _ _ h => h) (Or.inl ⟨by rfl, ?_⟩) (by assumption) ?_
  rotate_left
  · intro w hSw
    go_simp
    try with_reducible rfl
  simp only [Act.put, List.getElem_toArray, List.getElem_cons_zero, List.getElem_cons_succ, List.setIfInBounds_toArray, List.set_cons_zero, List.set_cons_succ]
  refine wpAnyH_ready (rs := [12]) (by kernel_rfl) (by simp) ?_
  refine AllReadyH.cons rfl (fun K hK => ?_) AllReadyH.nil
  go_simp
  refine (hangE HB k v s H.out.drew.tobj H.out.drew.cnt (ho.on H.out.drew.stay) (ha.on H.out.drew.stay) hw0).mono ?_
  rintro e w9 ⟨p1, rfl, ii, bc, kk⟩
  refine hK.out _ _ (turnLBE_held (H.out.drew.on HC.out kk bc) HG.out HI.out) (fun hHeld => ?_)
  clear hK K 
  have H1 := aside (H.out.drew.on HC.out kk bc)
  have I1 := aside ii
  clear ii bc kk
  refine wpAnyH_ready (rs := [26]) (by kernel_rfl) (by simp) ?_
  refine AllReadyH.cons rfl (fun K hK => ?_) AllReadyH.nil
  go_simp
  refine (hangE HB gk gv gs H1.out.tobj H1.out.cnt (hb.on H1.out.stay) (hgr.on H1.out.stay) hw1).mono ?_
  rintro e w9 ⟨p2, rfl, ii, bc, kk⟩
  refine hK.out _ _ (turnLBE_held (H1.out.on HC.out kk bc) HG.out HI.out) (fun hHeld => ?_)
  clear hK K 
  have H2 := aside (H1.out.on HC.out kk bc)
  have I2 := aside ii
  have I1b := aside (I1.out.on ((Stay.refl _ _).onE H1.out.cnt kk (by decide)))
  clear ii bc kk
  refine wpAnyH_ready (rs := [27]) (by kernel_rfl) (by simp) ?_
  refine AllReadyH.cons rfl (fun K hK => ?_) AllReadyH.nil
  go_simp
  refine (hangE HB ik iv is H2.out.tobj H2.out.cnt I1b.out I2.out hw2).mono ?_
  rintro e w9 ⟨p3, rfl, ii, bc, kk⟩
  refine hK.out _ _ (turnLBE_held (H2.out.on HC.out kk bc) HG.out HI.out) (fun hHeld => ?_)
  clear hK K 
  have H3 := aside (H2.out.on HC.out kk bc)
  have I3 := aside ii
  clear ii bc kk
  refine wpAnyH_take (i := 28) (v := ?_) rfl (by kernel_rfl) (by kernel_rfl) (by kernel_rfl) (fun _ _ _ h => h) (Or.inl ⟨by rfl, ?_⟩) (by assumption) ?_
  rotate_left
  · intro w hSw
    go_simp
    try with_reducible rfl
  simp only [Act.put, List.getElem_toArray, List.getElem_cons_zero, List.getElem_cons_succ, List.setIfInBounds_toArray, List.set_cons_zero, List.set_cons_succ]
  refine wpAnyH_done (by kernel_rfl) ?_ _
  go_wp2
  exact bodyPost_ret (v := .pointer p3) (by simp [results, Tryd.results117, go_sem]) rfl ⟨p3, rfl, I3.out, H3.out.cnt, H3.out.keeps⟩
end Go.Proofs.YtoflalflacopdaaDoor
namespace Go.Proofs.YtoflalflacopdaaDoor
open Go.RowKit
set_option linter.unusedVariables false
theorem turnRE {jv : Value} {c : Option Nat} (HB : BothOkE jv c) {w : World} {tb n : Nat} {root : Option Addr} {l r : Tr En Tl} {lp rp : Option Addr} (k : ByteArray) (v : En) (s : Tl)
    (ht : TObjE w tb jv root) (hc : CntE c n w) (hl : IsTE w lp l) (hr : IsTE w rp r) (hw : (Tr.node l k v s r).wt tSz ≤ 4611686018427387904) (hh : l.ht = r.ht + 2) :
    Calls Tryd.prog 116 #[.pointer (some ⟨tb, 0, none⟩), .agg #[.string k, .string v.k, .int .i64 v.c, .int .i64 v.n, .string v.v, .bool v.d, .int .i64 s.n, .int .u64 s.a, .int .u64 s.b], .pointer lp, .pointer rp] w fun e w' => ∃ p, e = .returned (.pointer p) ∧ IsTE w' p (Tr.turnR k v s l r) ∧ CntE c (n + Tr.turnRC l r) w' ∧ Keeps (OnC c) w w' := by
  cases l with
  | nil => simp [Tr.ht] at hh
  | node gl gk gv gs gr =>
    obtain ⟨bg, glp, grp, rfl, hg, hgl, hgr⟩ := hl
    simp only [Tr.wt] at hw
    by_cases hcmp : gr.ht ≤ gl.ht
    · simp only [Tr.turnR, Tr.turnRC, if_pos hcmp]
      refine (turnRAE HB k v s ht hc hg hgl hgr hr hcmp (by simp only [Tr.wt]; omega) (by simp only [Tr.wt]; omega)).mono fun e w' ⟨p, e1, e2, e3, e4⟩ => ⟨p, e1, e2, ?_, e4⟩
      rw [show Tr.hangC gl (gr.node k v s r) = if gl.isNil then 1 else 2 from by unfold Tr.hangC; cases gl.isNil <;> rfl] at e3
      rw [← Nat.add_assoc]
      exact e3
    · cases gr with
      | nil => simp [Tr.ht] at hcmp
      | node a ik iv is b =>
        simp only [Tr.turnR, Tr.turnRC, if_neg hcmp]
        have hgr' := hgr
        obtain ⟨bi, ap, bp, rfl, hi, ha, hb⟩ := hgr'
        simp only [Tr.wt] at hw
        refine (turnRBE HB k v s ht hc hg hi hgl ha hb hgr hr (by omega) (by simp only [Tr.wt]; omega) (by simp only [Tr.wt]; omega) (by simp only [Tr.wt]; omega)).mono fun e w' ⟨p, e1, e2, e3, e4⟩ => ⟨p, e1, e2, ?_, e4⟩
        rw [show Tr.hangC (gl.node gk gv gs a) (b.node k v s r) = 2 from rfl] at e3
        rw [← Nat.add_assoc, ← Nat.add_assoc]
        exact e3
theorem turnLE {jv : Value} {c : Option Nat} (HB : BothOkE jv c) {w : World} {tb n : Nat} {root : Option Addr} {l r : Tr En Tl} {lp rp : Option Addr} (k : ByteArray) (v : En) (s : Tl)
    (ht : TObjE w tb jv root) (hc : CntE c n w) (hl : IsTE w lp l) (hr : IsTE w rp r) (hw : (Tr.node l k v s r).wt tSz ≤ 4611686018427387904) (hh : r.ht = l.ht + 2) :
    Calls Tryd.prog 117 #[.pointer (some ⟨tb, 0, none⟩), .agg #[.string k, .string v.k, .int .i64 v.c, .int .i64 v.n, .string v.v, .bool v.d, .int .i64 s.n, .int .u64 s.a, .int .u64 s.b], .pointer lp, .pointer rp] w fun e w' => ∃ p, e = .returned (.pointer p) ∧ IsTE w' p (Tr.turnL k v s l r) ∧ CntE c (n + Tr.turnLC l r) w' ∧ Keeps (OnC c) w w' := by
  cases r with
  | nil => simp [Tr.ht] at hh
  | node gl gk gv gs gr =>
    obtain ⟨bg, glp, grp, rfl, hg, hgl, hgr⟩ := hr
    simp only [Tr.wt] at hw
    by_cases hcmp : gl.ht ≤ gr.ht
    · simp only [Tr.turnL, Tr.turnLC, if_pos hcmp]
      refine (turnLAE HB k v s ht hc hg hgr hgl hl hcmp (by simp only [Tr.wt]; omega) (by simp only [Tr.wt]; omega)).mono fun e w' ⟨p, e1, e2, e3, e4⟩ => ⟨p, e1, e2, ?_, e4⟩
      rw [show Tr.hangC (l.node k v s gl) gr = if gr.isNil then 1 else 2 from by unfold Tr.hangC; cases gr.isNil <;> rfl] at e3
      rw [← Nat.add_assoc]
      exact e3
    · cases gl with
      | nil => simp [Tr.ht] at hcmp
      | node a ik iv is b =>
        simp only [Tr.turnL, Tr.turnLC, if_neg hcmp]
        have hgl' := hgl
        obtain ⟨bi, ap, bp, rfl, hi, ha, hb⟩ := hgl'
        simp only [Tr.wt] at hw
        refine (turnLBE HB k v s ht hc hg hi hgr ha hb hgl hl (by omega) (by simp only [Tr.wt]; omega) (by simp only [Tr.wt]; omega) (by simp only [Tr.wt]; omega)).mono fun e w' ⟨p, e1, e2, e3, e4⟩ => ⟨p, e1, e2, ?_, e4⟩
        rw [show Tr.hangC (l.node k v s a) (b.node gk gv gs gr) = 2 from rfl] at e3
        rw [← Nat.add_assoc, ← Nat.add_assoc]
        exact e3
set_option maxHeartbeats 1600000 in
set_option maxRecDepth 100000 in
theorem levelAE {jv : Value} {c : Option Nat} (HB : BothOkE jv c) {w : World} {tb n : Nat} {root : Option Addr} {l r : Tr En Tl} {lp rp : Option Addr} (k : ByteArray) (v : En) (s : Tl)
    (ht : TObjE w tb jv root) (hc : CntE c n w) (hl : IsTE w lp l) (hr : IsTE w rp r) (hw : (Tr.node l k v s r).wt tSz ≤ 4611686018427387904) (hd : IntKind.i64.wrap ((l.ht : Int) - (r.ht : Int)) = 2) (hh : l.ht = r.ht + 2) :
    Calls Tryd.prog 98 #[.pointer (some ⟨tb, 0, none⟩), .agg #[.string k, .string v.k, .int .i64 v.c, .int .i64 v.n, .string v.v, .bool v.d, .int .i64 s.n, .int .u64 s.a, .int .u64 s.b], .pointer lp, .pointer rp] w fun e w' => ∃ p, e = .returned (.pointer p) ∧ IsTE w' p (Tr.turnR k v s l r) ∧ CntE c (n + Tr.turnRC l r) w' ∧ Keeps (OnC c) w w' := by
  have H := aside (lstE k v s ht hc)
  have HC := aside hc
  have CL := aside (fun (W : World) (h : Stay 135 w W) => levelsE (hl.on h))
  have CR := aside (fun (W : World) (h : Stay 135 w W) => levelsE (hr.on h))
  have HN := aside (turnRE HB k v s H.out.tobj H.out.cnt (hl.on H.out.stay) (hr.on H.out.stay) hw hh)
  generalize Tr.turnR k v s l r = T at *
  generalize Tr.turnRC l r = cst at *
  generalize (l.ht : Int) = hA at *
  generalize (r.ht : Int) = hB at *
  clear ht hc hl hr hw hh
  go_enter Tryd.func98, Tryd.ntmps98
  go_wp2_with fail
  refine (CL.out _ H.out.stay).mono ?_
  rintro e w1 ⟨rfl, rfl⟩
  go_wp2_with fail
  refine (CR.out _ H.out.stay).mono ?_
  rintro e w1 ⟨rfl, rfl⟩
  go_wp2_with fail
  refine HN.out.mono ?_
  rintro e w1 ⟨p, rfl, i1, bc, kk⟩
  have I1 := aside i1
  have BC := aside bc
  have KK := aside (H.out.keeps.trans kk)
  clear i1 bc kk HN CL CR H
  go_wp2
  exact bodyPost_ret (v := .pointer p) (by simp [results, Tryd.results98, go_sem]) rfl ⟨p, rfl, I1.out, BC.out, KK.out⟩
set_option maxHeartbeats 1600000 in
set_option maxRecDepth 100000 in
theorem levelBE {jv : Value} {c : Option Nat} (HB : BothOkE jv c) {w : World} {tb n : Nat} {root : Option Addr} {l r : Tr En Tl} {lp rp : Option Addr} (k : ByteArray) (v : En) (s : Tl)
    (ht : TObjE w tb jv root) (hc : CntE c n w) (hl : IsTE w lp l) (hr : IsTE w rp r) (hw : (Tr.node l k v s r).wt tSz ≤ 4611686018427387904) (hd : IntKind.i64.wrap ((l.ht : Int) - (r.ht : Int)) = -2) (hh : r.ht = l.ht + 2) :
    Calls Tryd.prog 98 #[.pointer (some ⟨tb, 0, none⟩), .agg #[.string k, .string v.k, .int .i64 v.c, .int .i64 v.n, .string v.v, .bool v.d, .int .i64 s.n, .int .u64 s.a, .int .u64 s.b], .pointer lp, .pointer rp] w fun e w' => ∃ p, e = .returned (.pointer p) ∧ IsTE w' p (Tr.turnL k v s l r) ∧ CntE c (n + Tr.turnLC l r) w' ∧ Keeps (OnC c) w w' := by
  have H := aside (lstE k v s ht hc)
  have HC := aside hc
  have CL := aside (fun (W : World) (h : Stay 135 w W) => levelsE (hl.on h))
  have CR := aside (fun (W : World) (h : Stay 135 w W) => levelsE (hr.on h))
  have HN := aside (turnLE HB k v s H.out.tobj H.out.cnt (hl.on H.out.stay) (hr.on H.out.stay) hw hh)
  generalize Tr.turnL k v s l r = T at *
  generalize Tr.turnLC l r = cst at *
  generalize (l.ht : Int) = hA at *
  generalize (r.ht : Int) = hB at *
  clear ht hc hl hr hw hh
  go_enter Tryd.func98, Tryd.ntmps98
  go_wp2_with fail
  refine (CL.out _ H.out.stay).mono ?_
  rintro e w1 ⟨rfl, rfl⟩
  go_wp2_with fail
  refine (CR.out _ H.out.stay).mono ?_
  rintro e w1 ⟨rfl, rfl⟩
  go_wp2_with fail
  refine HN.out.mono ?_
  rintro e w1 ⟨p, rfl, i1, bc, kk⟩
  have I1 := aside i1
  have BC := aside bc
  have KK := aside (H.out.keeps.trans kk)
  clear i1 bc kk HN CL CR H
  go_wp2
  exact bodyPost_ret (v := .pointer p) (by simp [results, Tryd.results98, go_sem]) rfl ⟨p, rfl, I1.out, BC.out, KK.out⟩
set_option maxHeartbeats 1600000 in
set_option maxRecDepth 100000 in
theorem levelCE {jv : Value} {c : Option Nat} (HB : BothOkE jv c) {w : World} {tb n : Nat} {root : Option Addr} {l r : Tr En Tl} {lp rp : Option Addr} (k : ByteArray) (v : En) (s : Tl)
    (ht : TObjE w tb jv root) (hc : CntE c n w) (hl : IsTE w lp l) (hr : IsTE w rp r) (hw : (Tr.node l k v s r).wt tSz ≤ 4611686018427387904) (hd : wrap64 ((l.ht : Int) - (r.ht : Int)) ≠ 2) (hd2 : wrap64 ((l.ht : Int) - (r.ht : Int)) ≠ -2) :
    Calls Tryd.prog 98 #[.pointer (some ⟨tb, 0, none⟩), .agg #[.string k, .string v.k, .int .i64 v.c, .int .i64 v.n, .string v.v, .bool v.d, .int .i64 s.n, .int .u64 s.a, .int .u64 s.b], .pointer lp, .pointer rp] w fun e w' => ∃ p, e = .returned (.pointer p) ∧ IsTE w' p (Tr.node l k v s r) ∧ CntE c (n + Tr.hangC l r) w' ∧ Keeps (OnC c) w w' := by
  have H := aside (lstE k v s ht hc)
  have HC := aside hc
  have CL := aside (fun (W : World) (h : Stay 135 w W) => levelsE (hl.on h))
  have CR := aside (fun (W : World) (h : Stay 135 w W) => levelsE (hr.on h))
  have HN := aside (hangE HB k v s H.out.tobj H.out.cnt (hl.on H.out.stay) (hr.on H.out.stay) hw)
  generalize Tr.node l k v s r = T at *
  generalize Tr.hangC l r = cst at *
  generalize (l.ht : Int) = hA at *
  generalize (r.ht : Int) = hB at *
  clear ht hc hl hr hw
  have hq1 : (wrap64 (hA - hB) == 2) = false := beq_eq_false_iff_ne.2 hd
  have hq2 : (wrap64 (hA - hB) == -2) = false := beq_eq_false_iff_ne.2 hd2
  clear hd hd2
  go_enter Tryd.func98, Tryd.ntmps98
  go_wp2_with fail
  refine (CL.out _ H.out.stay).mono ?_
  rintro e w1 ⟨rfl, rfl⟩
  go_wp2_with fail
  refine (CR.out _ H.out.stay).mono ?_
  rintro e w1 ⟨rfl, rfl⟩
  go_wp2_with fail
  refine HN.out.mono ?_
  rintro e w1 ⟨p, rfl, i1, bc, kk⟩
  have I1 := aside i1
  have BC := aside bc
  have KK := aside (H.out.keeps.trans kk)
  clear i1 bc kk HN CL CR H
  go_wp2
  exact bodyPost_ret (v := .pointer p) (by simp [results, Tryd.results98, go_sem]) rfl ⟨p, rfl, I1.out, BC.out, KK.out⟩
theorem levelE {jv : Value} {c : Option Nat} (HB : BothOkE jv c) {w : World} {tb n : Nat} {root : Option Addr} {l r : Tr En Tl} {lp rp : Option Addr} (k : ByteArray) (v : En) (s : Tl)
    (ht : TObjE w tb jv root) (hc : CntE c n w) (hl : IsTE w lp l) (hr : IsTE w rp r) (hw : (Tr.node l k v s r).wt tSz ≤ 4611686018427387904) :
    Calls Tryd.prog 98 #[.pointer (some ⟨tb, 0, none⟩), .agg #[.string k, .string v.k, .int .i64 v.c, .int .i64 v.n, .string v.v, .bool v.d, .int .i64 s.n, .int .u64 s.a, .int .u64 s.b], .pointer lp, .pointer rp] w fun e w' => ∃ p, e = .returned (.pointer p) ∧ IsTE w' p (Tr.level k v s l r) ∧ CntE c (n + Tr.levelC l r) w' ∧ Keeps (OnC c) w w' := by
  have h1 := Tr.cnt_le_wt tSz (Tr.node l k v s r)
  have h2 := Tr.ht_le_cnt l
  have h3 := Tr.ht_le_cnt r
  simp only [Tr.cnt] at h1
  have hd : IntKind.i64.wrap ((l.ht : Int) - (r.ht : Int)) = (l.ht : Int) - (r.ht : Int) := by rw [IntKind.wrap_i64]; omega
  have hd' : wrap64 ((l.ht : Int) - (r.ht : Int)) = (l.ht : Int) - (r.ht : Int) := by unfold wrap64; omega
  unfold Tr.level Tr.levelC
  by_cases g1 : l.ht = r.ht + 2
  · rw [if_pos g1, if_pos g1]
    exact levelAE HB k v s ht hc hl hr hw (by rw [hd]; omega) g1
  · rw [if_neg g1, if_neg g1]
    by_cases g2 : r.ht = l.ht + 2
    · rw [if_pos g2, if_pos g2]
      exact levelBE HB k v s ht hc hl hr hw (by rw [hd]; omega) g2
    · rw [if_neg g2, if_neg g2]
      exact levelCE HB k v s ht hc hl hr hw (by rw [hd']; omega) (by rw [hd']; omega)
end Go.Proofs.YtoflalflacopdaaDoor

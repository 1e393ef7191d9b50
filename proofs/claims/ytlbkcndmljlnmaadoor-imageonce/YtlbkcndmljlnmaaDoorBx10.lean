/-
  turnRight (E), case B.
  turnLeft (E), case A.
-/
import Derived.Test.YtlbkcndmljlnmaaDoorBx9
namespace Go.Proofs.YtlbkcndmljlnmaaDoor
open Go.RowKit
set_option linter.unusedVariables false
theorem turnRBE_held {w X : World} {tb n : Nat} {jv : Value} {root : Option Addr} {c : Option Nat} {k gk : ByteArray} {v gv : En} {s gs gq : Tl} {bg : Nat} {glp : Option Addr} {gc gh : Int} {bi : Nat} {ik : ByteArray} {iv : En} {is iq : Tl} {ap bp : Option Addr} {ic ih : Int} (h : LStE w X tb n jv root c k v s) (hg : w.heap[bg]? = some (.cells #[.string gk, .string gv.k, .int .i64 gv.c, .int .i64 gv.n, .string gv.v, .bool gv.d, .int .i64 gs.n, .int .u64 gs.a, .int .u64 gs.b, .pointer glp, .pointer (some ⟨bi, 0, none⟩), .int .i64 gc, .int .i64 gh, .int .i64 gq.n, .int .u64 gq.a, .int .u64 gq.b] 145 (0, 0))) (hi : w.heap[bi]? = some (.cells #[.string ik, .string iv.k, .int .i64 iv.c, .int .i64 iv.n, .string iv.v, .bool iv.d, .int .i64 is.n, .int .u64 is.a, .int .u64 is.b, .pointer ap, .pointer bp, .int .i64 ic, .int .i64 ih, .int .i64 iq.n, .int .u64 iq.a, .int .u64 iq.b] 145 (0, 0))) : X.cell? ⟨w.heap.size, 0, none⟩ = some (.string k) ∧ X.cell? ⟨w.heap.size, 1, none⟩ = some (.string v.k) ∧ X.cell? ⟨w.heap.size, 2, none⟩ = some (.int .i64 v.c) ∧ X.cell? ⟨w.heap.size, 3, none⟩ = some (.int .i64 v.n) ∧ X.cell? ⟨w.heap.size, 4, none⟩ = some (.string v.v) ∧ X.cell? ⟨w.heap.size, 5, none⟩ = some (.bool v.d) ∧ X.cell? ⟨w.heap.size, 6, none⟩ = some (.int .i64 s.n) ∧ X.cell? ⟨w.heap.size, 7, none⟩ = some (.int .u64 s.a) ∧ X.cell? ⟨w.heap.size, 8, none⟩ = some (.int .u64 s.b) ∧ X.cell? ⟨bg, 0, none⟩ = some (.string gk) ∧ X.cell? ⟨bg, 1, none⟩ = some (.string gv.k) ∧ X.cell? ⟨bg, 2, none⟩ = some (.int .i64 gv.c) ∧ X.cell? ⟨bg, 3, none⟩ = some (.int .i64 gv.n) ∧ X.cell? ⟨bg, 4, none⟩ = some (.string gv.v) ∧ X.cell? ⟨bg, 5, none⟩ = some (.bool gv.d) ∧ X.cell? ⟨bg, 6, none⟩ = some (.int .i64 gs.n) ∧ X.cell? ⟨bg, 7, none⟩ = some (.int .u64 gs.a) ∧ X.cell? ⟨bg, 8, none⟩ = some (.int .u64 gs.b) ∧ X.cell? ⟨bg, 9, none⟩ = some (.pointer glp) ∧ X.cell? ⟨bi, 0, none⟩ = some (.string ik) ∧ X.cell? ⟨bi, 1, none⟩ = some (.string iv.k) ∧ X.cell? ⟨bi, 2, none⟩ = some (.int .i64 iv.c) ∧ X.cell? ⟨bi, 3, none⟩ = some (.int .i64 iv.n) ∧ X.cell? ⟨bi, 4, none⟩ = some (.string iv.v) ∧ X.cell? ⟨bi, 5, none⟩ = some (.bool iv.d) ∧ X.cell? ⟨bi, 6, none⟩ = some (.int .i64 is.n) ∧ X.cell? ⟨bi, 7, none⟩ = some (.int .u64 is.a) ∧ X.cell? ⟨bi, 8, none⟩ = some (.int .u64 is.b) ∧ X.cell? ⟨bi, 9, none⟩ = some (.pointer ap) ∧ X.cell? ⟨bi, 10, none⟩ = some (.pointer bp) := by
  obtain ⟨r0, r1, r2, r3, r4, r5, r6, r7, r8⟩ := h.cells
  obtain ⟨g0, g1, g2, g3, g4, g5, g6, g7, g8, g9, -, -, -, -, -, -⟩ := nodeE (h.stay _ _ hg)
  obtain ⟨i0, i1, i2, i3, i4, i5, i6, i7, i8, i9, i10, -, -, -, -, -⟩ := nodeE (h.stay _ _ hi)
  exact ⟨r0, r1, r2, r3, r4, r5, r6, r7, r8, g0, g1, g2, g3, g4, g5, g6, g7, g8, g9, i0, i1, i2, i3, i4, i5, i6, i7, i8, i9, i10⟩
set_option maxHeartbeats 3200000 in
set_option maxRecDepth 100000 in
theorem turnRBE {jv : Value} {c : Option Nat} (HB : BothOkE jv c) {w : World} {tb n : Nat} {root : Option Addr} (k : ByteArray) (v : En) (s : Tl) {gk : ByteArray} {gv : En} {gs gq : Tl} {bg : Nat} {glp op : Option Addr} {gc gh : Int} {bi : Nat} {ik : ByteArray} {iv : En} {is iq : Tl} {ap bp : Option Addr} {ic ih : Int} {a b : Tr En Tl} {gl o inn : Tr En Tl} 
    (ht : TObjE w tb jv root) (hc : CntE c n w) (hg : w.heap[bg]? = some (.cells #[.string gk, .string gv.k, .int .i64 gv.c, .int .i64 gv.n, .string gv.v, .bool gv.d, .int .i64 gs.n, .int .u64 gs.a, .int .u64 gs.b, .pointer glp, .pointer (some ⟨bi, 0, none⟩), .int .i64 gc, .int .i64 gh, .int .i64 gq.n, .int .u64 gq.a, .int .u64 gq.b] 145 (0, 0))) (hi : w.heap[bi]? = some (.cells #[.string ik, .string iv.k, .int .i64 iv.c, .int .i64 iv.n, .string iv.v, .bool iv.d, .int .i64 is.n, .int .u64 is.a, .int .u64 is.b, .pointer ap, .pointer bp, .int .i64 ic, .int .i64 ih, .int .i64 iq.n, .int .u64 iq.a, .int .u64 iq.b] 145 (0, 0))) (hgl : IsTE w glp gl) (ha : IsTE w ap a) (hb : IsTE w bp b) (hin : IsTE w (some ⟨bi, 0, none⟩) inn) (ho : IsTE w op o) (hcmp : gl.ht < inn.ht) (hw0 : (Tr.node gl gk gv gs a).wt tSz ≤ 4611686018427387904) (hw1 : (Tr.node b k v s o).wt tSz ≤ 4611686018427387904) (hw2 : (Tr.node (Tr.node gl gk gv gs a) ik iv is (Tr.node b k v s o)).wt tSz ≤ 4611686018427387904) :
    Calls Tryd.prog 105 #[.pointer (some ⟨tb, 0, none⟩), .agg #[.string k, .string v.k, .int .i64 v.c, .int .i64 v.n, .string v.v, .bool v.d, .int .i64 s.n, .int .u64 s.a, .int .u64 s.b], .pointer (some ⟨bg, 0, none⟩), .pointer op] w fun e w' => ∃ p, e = .returned (.pointer p) ∧ IsTE w' p (Tr.node (Tr.node gl gk gv gs a) ik iv is (Tr.node b k v s o)) ∧ CntE c (((n + Tr.hangC gl a) + Tr.hangC b o) + Tr.hangC (Tr.node gl gk gv gs a) (Tr.node b k v s o)) w' ∧ Keeps (OnC c) w w' := by
  have H := aside (lstE k v s ht hc)
  have HC := aside hc
  have HG := aside hg
  have HI := aside hi
  have CO := aside (fun (W : World) (h : Stay 145 w W) => levelsE (hgl.on h))
  have CI := aside (fun (W : World) (h : Stay 145 w W) => levelsE (hin.on h))
  have hcm : ¬ (inn.ht : Int) ≤ (gl.ht : Int) := by omega
  generalize (gl.ht : Int) = ho1 at *
  generalize (inn.ht : Int) = hi1 at *
  have h1 := nodeE (H.out.stay _ _ hg)
  obtain ⟨-, -, -, -, -, -, -, -, -, g9, g10, -, -, -, -, -⟩ := h1
  clear ht hc hg hi hcmp
  go_enter Tryd.func105, Tryd.ntmps105
  go_wp2_with fail
  refine (CO.out _ H.out.stay).mono ?_
  rintro e w1 ⟨rfl, rfl⟩
  go_wp2_with fail
  refine (CI.out _ H.out.stay).mono ?_
  rintro e w1 ⟨rfl, rfl⟩
  go_wp2_with fail
  clear g9 g10 CO CI
  generalize w.alloc (.cells #[.string k, .string v.k, .int .i64 v.c, .int .i64 v.n, .string v.v, .bool v.d, .int .i64 s.n, .int .u64 s.a, .int .u64 s.b] 143) = V at *
  refine wp_region_held_drew (S := fun X => X.cell? ⟨w.heap.size, 0, none⟩ = some (.string k) ∧ X.cell? ⟨w.heap.size, 1, none⟩ = some (.string v.k) ∧ X.cell? ⟨w.heap.size, 2, none⟩ = some (.int .i64 v.c) ∧ X.cell? ⟨w.heap.size, 3, none⟩ = some (.int .i64 v.n) ∧ X.cell? ⟨w.heap.size, 4, none⟩ = some (.string v.v) ∧ X.cell? ⟨w.heap.size, 5, none⟩ = some (.bool v.d) ∧ X.cell? ⟨w.heap.size, 6, none⟩ = some (.int .i64 s.n) ∧ X.cell? ⟨w.heap.size, 7, none⟩ = some (.int .u64 s.a) ∧ X.cell? ⟨w.heap.size, 8, none⟩ = some (.int .u64 s.b) ∧ X.cell? ⟨bg, 0, none⟩ = some (.string gk) ∧ X.cell? ⟨bg, 1, none⟩ = some (.string gv.k) ∧ X.cell? ⟨bg, 2, none⟩ = some (.int .i64 gv.c) ∧ X.cell? ⟨bg, 3, none⟩ = some (.int .i64 gv.n) ∧ X.cell? ⟨bg, 4, none⟩ = some (.string gv.v) ∧ X.cell? ⟨bg, 5, none⟩ = some (.bool gv.d) ∧ X.cell? ⟨bg, 6, none⟩ = some (.int .i64 gs.n) ∧ X.cell? ⟨bg, 7, none⟩ = some (.int .u64 gs.a) ∧ X.cell? ⟨bg, 8, none⟩ = some (.int .u64 gs.b) ∧ X.cell? ⟨bg, 9, none⟩ = some (.pointer glp) ∧ X.cell? ⟨bi, 0, none⟩ = some (.string ik) ∧ X.cell? ⟨bi, 1, none⟩ = some (.string iv.k) ∧ X.cell? ⟨bi, 2, none⟩ = some (.int .i64 iv.c) ∧ X.cell? ⟨bi, 3, none⟩ = some (.int .i64 iv.n) ∧ X.cell? ⟨bi, 4, none⟩ = some (.string iv.v) ∧ X.cell? ⟨bi, 5, none⟩ = some (.bool iv.d) ∧ X.cell? ⟨bi, 6, none⟩ = some (.int .i64 is.n) ∧ X.cell? ⟨bi, 7, none⟩ = some (.int .u64 is.a) ∧ X.cell? ⟨bi, 8, none⟩ = some (.int .u64 is.b) ∧ X.cell? ⟨bi, 9, none⟩ = some (.pointer ap) ∧ X.cell? ⟨bi, 10, none⟩ = some (.pointer bp)) (by kernel_rfl) (turnRBE_held H.out.drew HG.out HI.out) (fun hHeld => ?_)
  refine wpAnyH_take (i := 0) (v := ?_) rfl (by kernel_rfl) (by kernel_rfl) (by kernel_rfl) (fun _ _ _ h => h) (Or.inl ⟨by rfl, ?_⟩) (by assumption) ?_
  rotate_left
  · intro w hSw
    go_simp
    try with_reducible rfl
  simp only [Act.put, List.getElem_toArray, List.getElem_cons_zero, List.setIfInBounds_toArray, List.set_cons_zero, List.set_cons_succ]
  refine wpAnyH_take (i := 1) (v := ?_) rfl (by kernel_rfl) (by kernel_rfl) (by kernel_rfl) (fun _ _ _ h => h) (Or.inl ⟨by rfl, ?_⟩) (by assumption) ?_
  rotate_left
  · intro w hSw
    go_simp
    try with_reducible rfl
  simp only [Act.put, List.getElem_toArray, List.getElem_cons_zero, List.getElem_cons_succ, List.setIfInBounds_toArray, List.set_cons_zero, List.set_cons_succ]
  refine wpAnyH_take (i := 2) (v := ?_) rfl (by kernel_rfl) (by kernel_rfl) (by kernel_rfl) (fun _ _ _ h => h) (Or.inl ⟨by rfl, ?_⟩) (by assumption) ?_
  rotate_left
  · intro w hSw
    go_simp
    try with_reducible rfl
  simp only [Act.put, List.getElem_toArray, List.getElem_cons_zero, List.getElem_cons_succ, List.setIfInBounds_toArray, List.set_cons_zero, List.set_cons_succ]
  refine wpAnyH_take (i := 3) (v := ?_) rfl (by kernel_rfl) (by kernel_rfl) (by kernel_rfl) (fun _ _ _ h => h) (Or.inl ⟨by rfl, ?_⟩) (by assumption) ?_
  rotate_left
  · intro w hSw
    go_simp
    try with_reducible rfl
  simp only [Act.put, List.getElem_toArray, List.getElem_cons_zero, List.getElem_cons_succ, List.setIfInBounds_toArray, List.set_cons_zero, List.set_cons_succ]
  refine wpAnyH_take (i := 4) (v := ?_) rfl (by kernel_rfl) (by kernel_rfl) (by kernel_rfl) (fun _ _ _ h => h) (Or.inl ⟨by rfl, ?_⟩) (by assumption) ?_
  rotate_left
  · intro w hSw
    go_simp
    try with_reducible rfl
  simp only [Act.put, List.getElem_toArray, List.getElem_cons_zero, List.getElem_cons_succ, List.setIfInBounds_toArray, List.set_cons_zero, List.set_cons_succ]
  refine wpAnyH_take (i := 5) (v := ?_) rfl (by kernel_rfl) (by kernel_rfl) (by kernel_rfl) (fun _ _ _ h => h) (Or.inl ⟨by rfl, ?_⟩) (by assumption) ?_
  rotate_left
  · intro w hSw
    go_simp
    try with_reducible rfl
  simp only [Act.put, List.getElem_toArray, List.getElem_cons_zero, List.getElem_cons_succ, List.setIfInBounds_toArray, List.set_cons_zero, List.set_cons_succ]
  refine wpAnyH_take (i := 6) (v := ?_) rfl (by kernel_rfl) (by kernel_rfl) (by kernel_rfl) (fun _ _ _ h => h) (Or.inl ⟨by rfl, ?_⟩) (by assumption) ?_
  rotate_left
  · intro w hSw
    go_simp
    try with_reducible rfl
  simp only [Act.put, List.getElem_toArray, List.getElem_cons_zero, List.getElem_cons_succ, List.setIfInBounds_toArray, List.set_cons_zero, List.set_cons_succ]
  refine wpAnyH_take (i := 7) (v := ?_) rfl (by kernel_rfl) (by kernel_rfl) (by kernel_rfl) (fun _ _ _ h => h) (Or.inl ⟨by rfl, ?_⟩) (by assumption) ?_
  rotate_left
  · intro w hSw
    go_simp
    try with_reducible rfl
  simp only [Act.put, List.getElem_toArray, List.getElem_cons_zero, List.getElem_cons_succ, List.setIfInBounds_toArray, List.set_cons_zero, List.set_cons_succ]
  refine wpAnyH_take (i := 8) (v := ?_) rfl (by kernel_rfl) (by kernel_rfl) (by kernel_rfl) (fun _ _ _ h => h) (Or.inl ⟨by rfl, ?_⟩) (by assumption) ?_
  rotate_left
  · intro w hSw
    go_simp
    try with_reducible rfl
  simp only [Act.put, List.getElem_toArray, List.getElem_cons_zero, List.getElem_cons_succ, List.setIfInBounds_toArray, List.set_cons_zero, List.set_cons_succ]
  refine wpAnyH_take (i := 9) (v := ?_) rfl (by kernel_rfl) (by kernel_rfl) (by kernel_rfl) (fun _ _ _ h => h) (Or.inl ⟨by rfl, ?_⟩) (by assumption) ?_
  rotate_left
  · intro w hSw
    go_simp
    try with_reducible rfl
  simp only [Act.put, List.getElem_toArray, List.getElem_cons_zero, List.getElem_cons_succ, List.setIfInBounds_toArray, List.set_cons_zero, List.set_cons_succ]
  refine wpAnyH_take (i := 10) (v := ?_) rfl (by kernel_rfl) (by kernel_rfl) (by kernel_rfl) (fun _ _ _ h => h) (Or.inl ⟨by rfl, ?_⟩) (by assumption) ?_
  rotate_left
  · intro w hSw
    go_simp
    try with_reducible rfl
  simp only [Act.put, List.getElem_toArray, List.getElem_cons_zero, List.getElem_cons_succ, List.setIfInBounds_toArray, List.set_cons_zero, List.set_cons_succ]
  refine wpAnyH_take (i := 11) (v := ?_) rfl (by kernel_rfl) (by kernel_rfl) (by kernel_rfl) (fun _ _ _ h => h) (Or.inl ⟨by rfl, ?_⟩) (by assumption) ?_
  rotate_left
  · intro w hSw
    go_simp
    try with_reducible rfl
  simp only [Act.put, List.getElem_toArray, List.getElem_cons_zero, List.getElem_cons_succ, List.setIfInBounds_toArray, List.set_cons_zero, List.set_cons_succ]
  refine wpAnyH_take (i := 12) (v := ?_) rfl (by kernel_rfl) (by kernel_rfl) (by kernel_rfl) (fun _ _ _ h => h) (Or.inl ⟨by rfl, ?_⟩) (by assumption) ?_
  rotate_left
  · intro w hSw
    go_simp
    try with_reducible rfl
  simp only [Act.put, List.getElem_toArray, List.getElem_cons_zero, List.getElem_cons_succ, List.setIfInBounds_toArray, List.set_cons_zero, List.set_cons_succ]
  refine wpAnyH_take (i := 13) (v := ?_) rfl (by kernel_rfl) (by kernel_rfl) (by kernel_rfl) (fun _ _ _ h => h) (Or.inl ⟨by rfl, ?_⟩) (by assumption) ?_
  rotate_left
  · intro w hSw
    go_simp
    try with_reducible rfl
  simp only [Act.put, List.getElem_toArray, List.getElem_cons_zero, List.getElem_cons_succ, List.setIfInBounds_toArray, List.set_cons_zero, List.set_cons_succ]
  refine wpAnyH_take (i := 14) (v := ?_) rfl (by kernel_rfl) (by kernel_rfl) (by kernel_rfl) (fun _ _ _ h => h) (Or.inl ⟨by rfl, ?_⟩) (by assumption) ?_
  rotate_left
  · intro w hSw
    go_simp
    try with_reducible rfl
  simp only [Act.put, List.getElem_toArray, List.getElem_cons_zero, List.getElem_cons_succ, List.setIfInBounds_toArray, List.set_cons_zero, List.set_cons_succ]
  refine wpAnyH_take (i := 15) (v := ?_) rfl (by kernel_rfl) (by kernel_rfl) (by kernel_rfl) (fun _ _ _ h => h) (Or.inl ⟨by rfl, ?_⟩) (by assumption) ?_
  rotate_left
  · intro w hSw
    go_simp
    try with_reducible rfl
  simp only [Act.put, List.getElem_toArray, List.getElem_cons_zero, List.getElem_cons_succ, List.setIfInBounds_toArray, List.set_cons_zero, List.set_cons_succ]
  refine wpAnyH_take (i := 16) (v := ?_) rfl (by kernel_rfl) (by kernel_rfl) (by kernel_rfl) (fun _ _ _ h => h) (Or.inl ⟨by rfl, ?_⟩) (by assumption) ?_
  rotate_left
  · intro w hSw
    go_simp
    try with_reducible rfl
  simp only [Act.put, List.getElem_toArray, List.getElem_cons_zero, List.getElem_cons_succ, List.setIfInBounds_toArray, List.set_cons_zero, List.set_cons_succ]
  refine wpAnyH_take (i := 17) (v := ?_) rfl (by kernel_rfl) (by kernel_rfl) (by kernel_rfl) (fun _ _ _ h => h) (Or.inl ⟨by rfl, ?_⟩) (by assumption) ?_
  rotate_left
  · intro w hSw
    go_simp
    try with_reducible rfl
  simp only [Act.put, List.getElem_toArray, List.getElem_cons_zero, List.getElem_cons_succ, List.setIfInBounds_toArray, List.set_cons_zero, List.set_cons_succ]
  refine wpAnyH_take (i := 19) (v := ?_) rfl (by kernel_rfl) (by kernel_rfl) (by kernel_rfl) (fun _ _ _ h => h) (Or.inl ⟨by rfl, ?_⟩) (by assumption) ?_
  rotate_left
  · intro w hSw
    go_simp
    try with_reducible rfl
  simp only [Act.put, List.getElem_toArray, List.getElem_cons_zero, List.getElem_cons_succ, List.setIfInBounds_toArray, List.set_cons_zero, List.set_cons_succ]
  refine wpAnyH_take (i := 20) (v := ?_) rfl (by kernel_rfl) (by kernel_rfl) (by kernel_rfl) (fun _ _ _ h => h) (Or.inl ⟨by rfl, ?_⟩) (by assumption) ?_
  rotate_left
  · intro w hSw
    go_simp
    try with_reducible rfl
  simp only [Act.put, List.getElem_toArray, List.getElem_cons_zero, List.getElem_cons_succ, List.setIfInBounds_toArray, List.set_cons_zero, List.set_cons_succ]
  refine wpAnyH_take (i := 21) (v := ?_) rfl (by kernel_rfl) (by kernel_rfl) (by kernel_rfl) (fun _ _ _ h => h) (Or.inl ⟨by rfl, ?_⟩) (by assumption) ?_
  rotate_left
  · intro w hSw
    go_simp
    try with_reducible rfl
  simp only [Act.put, List.getElem_toArray, List.getElem_cons_zero, List.getElem_cons_succ, List.setIfInBounds_toArray, List.set_cons_zero, List.set_cons_succ]
  refine wpAnyH_take (i := 22) (v := ?_) rfl (by kernel_rfl) (by kernel_rfl) (by kernel_rfl) (fun _ _ _ h => h) (Or.inl ⟨by rfl, ?_⟩) (by assumption) ?_
  rotate_left
  · intro w hSw
    go_simp
    try with_reducible rfl
  simp only [Act.put, List.getElem_toArray, List.getElem_cons_zero, List.getElem_cons_succ, List.setIfInBounds_toArray, List.set_cons_zero, List.set_cons_succ]
  refine wpAnyH_take (i := 23) (v := ?_) rfl (by kernel_rfl) (by kernel_rfl) (by kernel_rfl) (fun _ _ _ h => h) (Or.inl ⟨by rfl, ?_⟩) (by assumption) ?_
  rotate_left
  · intro w hSw
    go_simp
    try with_reducible rfl
  simp only [Act.put, List.getElem_toArray, List.getElem_cons_zero, List.getElem_cons_succ, List.setIfInBounds_toArray, List.set_cons_zero, List.set_cons_succ]
  refine wpAnyH_take (i := 24) (v := ?_) rfl (by kernel_rfl) (by kernel_rfl) (by kernel_rfl) (fun _ _ _ h => h) (Or.inl ⟨by rfl, ?_⟩) (by assumption) ?_
  rotate_left
  · intro w hSw
    go_simp
    try with_reducible rfl
  simp only [Act.put, List.getElem_toArray, List.getElem_cons_zero, List.getElem_cons_succ, List.setIfInBounds_toArray, List.set_cons_zero, List.set_cons_succ]
  refine wpAnyH_take (i := 25) (v := ?_) rfl (by kernel_rfl) (by kernel_rfl) (by kernel_rfl) (fun _ _ _ h => h) (Or.inl ⟨by rfl, ?_⟩) (by assumption) ?_
  rotate_left
  · intro w hSw
    go_simp
    try with_reducible rfl
  simp only [Act.put, List.getElem_toArray, List.getElem_cons_zero, List.getElem_cons_succ, List.setIfInBounds_toArray, List.set_cons_zero, List.set_cons_succ]
  refine wpAnyH_ready (rs := [18]) (by kernel_rfl) (by simp) ?_
  refine AllReadyH.cons rfl (fun K hK => ?_) AllReadyH.nil
  go_simp
  refine (hangE HB gk gv gs H.out.drew.tobj H.out.drew.cnt (hgl.on H.out.drew.stay) (ha.on H.out.drew.stay) hw0).mono ?_
  rintro e w9 ⟨p1, rfl, ii, bc, kk⟩
  refine hK.out _ _ (turnRBE_held (H.out.drew.on HC.out kk bc) HG.out HI.out) (fun hHeld => ?_)
  clear hK K 
  have H1 := aside (H.out.drew.on HC.out kk bc)
  have I1 := aside ii
  clear ii bc kk
  refine wpAnyH_ready (rs := [26]) (by kernel_rfl) (by simp) ?_
  refine AllReadyH.cons rfl (fun K hK => ?_) AllReadyH.nil
  go_simp
  refine (hangE HB k v s H1.out.tobj H1.out.cnt (hb.on H1.out.stay) (ho.on H1.out.stay) hw1).mono ?_
  rintro e w9 ⟨p2, rfl, ii, bc, kk⟩
  refine hK.out _ _ (turnRBE_held (H1.out.on HC.out kk bc) HG.out HI.out) (fun hHeld => ?_)
  clear hK K 
  have H2 := aside (H1.out.on HC.out kk bc)
  have I2 := aside ii
  have I1b := aside (I1.out.on ((Stay.refl _ _).onE H1.out.cnt kk (by decide)))
  clear ii bc kk
  refine wpAnyH_ready (rs := [27]) (by kernel_rfl) (by simp) ?_
  refine AllReadyH.cons rfl (fun K hK => ?_) AllReadyH.nil
  go_simp
  refine (hangE HB ik iv is H2.out.tobj H2.out.cnt I1b.out I2.out hw2).mono ?_
  rintro e w9 ⟨p3, rfl, ii, bc, kk⟩
  refine hK.out _ _ (turnRBE_held (H2.out.on HC.out kk bc) HG.out HI.out) (fun hHeld => ?_)
  clear hK K 
  have H3 := aside (H2.out.on HC.out kk bc)
  have I3 := aside ii
  clear ii bc kk
  refine wpAnyH_take (i := 28) (v := ?_) rfl (by kernel_rfl) (by kernel_rfl) (by kernel_rfl) (fun _ _ _ h => h) (Or.inl ⟨by rfl, ?_⟩) (by assumption) ?_
  rotate_left
  · intro w hSw
    go_simp
    try with_reducible rfl
  simp only [Act.put, List.getElem_toArray, List.getElem_cons_zero, List.getElem_cons_succ, List.setIfInBounds_toArray, List.set_cons_zero, List.set_cons_succ]
  refine wpAnyH_done (by kernel_rfl) ?_ _
  go_wp2
  exact bodyPost_ret (v := .pointer p3) (by simp [results, Tryd.results105, go_sem]) rfl ⟨p3, rfl, I3.out, H3.out.cnt, H3.out.keeps⟩
end Go.Proofs.YtlbkcndmljlnmaaDoor
namespace Go.Proofs.YtlbkcndmljlnmaaDoor
open Go.RowKit
set_option linter.unusedVariables false
theorem turnLAE_held {w X : World} {tb n : Nat} {jv : Value} {root : Option Addr} {c : Option Nat} {k gk : ByteArray} {v gv : En} {s gs gq : Tl} {bg : Nat} {glp grp : Option Addr} {gc gh : Int} (h : LStE w X tb n jv root c k v s) (hg : w.heap[bg]? = some (.cells #[.string gk, .string gv.k, .int .i64 gv.c, .int .i64 gv.n, .string gv.v, .bool gv.d, .int .i64 gs.n, .int .u64 gs.a, .int .u64 gs.b, .pointer glp, .pointer grp, .int .i64 gc, .int .i64 gh, .int .i64 gq.n, .int .u64 gq.a, .int .u64 gq.b] 145 (0, 0))) : X.cell? ⟨w.heap.size, 0, none⟩ = some (.string k) ∧ X.cell? ⟨w.heap.size, 1, none⟩ = some (.string v.k) ∧ X.cell? ⟨w.heap.size, 2, none⟩ = some (.int .i64 v.c) ∧ X.cell? ⟨w.heap.size, 3, none⟩ = some (.int .i64 v.n) ∧ X.cell? ⟨w.heap.size, 4, none⟩ = some (.string v.v) ∧ X.cell? ⟨w.heap.size, 5, none⟩ = some (.bool v.d) ∧ X.cell? ⟨w.heap.size, 6, none⟩ = some (.int .i64 s.n) ∧ X.cell? ⟨w.heap.size, 7, none⟩ = some (.int .u64 s.a) ∧ X.cell? ⟨w.heap.size, 8, none⟩ = some (.int .u64 s.b) ∧ X.cell? ⟨bg, 0, none⟩ = some (.string gk) ∧ X.cell? ⟨bg, 1, none⟩ = some (.string gv.k) ∧ X.cell? ⟨bg, 2, none⟩ = some (.int .i64 gv.c) ∧ X.cell? ⟨bg, 3, none⟩ = some (.int .i64 gv.n) ∧ X.cell? ⟨bg, 4, none⟩ = some (.string gv.v) ∧ X.cell? ⟨bg, 5, none⟩ = some (.bool gv.d) ∧ X.cell? ⟨bg, 6, none⟩ = some (.int .i64 gs.n) ∧ X.cell? ⟨bg, 7, none⟩ = some (.int .u64 gs.a) ∧ X.cell? ⟨bg, 8, none⟩ = some (.int .u64 gs.b) ∧ X.cell? ⟨bg, 10, none⟩ = some (.pointer grp) := by
  obtain ⟨r0, r1, r2, r3, r4, r5, r6, r7, r8⟩ := h.cells
  obtain ⟨g0, g1, g2, g3, g4, g5, g6, g7, g8, -, g10, -, -, -, -, -⟩ := nodeE (h.stay _ _ hg)
  skip
  exact ⟨r0, r1, r2, r3, r4, r5, r6, r7, r8, g0, g1, g2, g3, g4, g5, g6, g7, g8, g10⟩
set_option maxHeartbeats 3200000 in
set_option maxRecDepth 100000 in
theorem turnLAE {jv : Value} {c : Option Nat} (HB : BothOkE jv c) {w : World} {tb n : Nat} {root : Option Addr} (k : ByteArray) (v : En) (s : Tl) {gk : ByteArray} {gv : En} {gs gq : Tl} {bg : Nat} {glp grp op : Option Addr} {gc gh : Int} {gl gr o : Tr En Tl} 
    (ht : TObjE w tb jv root) (hc : CntE c n w) (hg : w.heap[bg]? = some (.cells #[.string gk, .string gv.k, .int .i64 gv.c, .int .i64 gv.n, .string gv.v, .bool gv.d, .int .i64 gs.n, .int .u64 gs.a, .int .u64 gs.b, .pointer glp, .pointer grp, .int .i64 gc, .int .i64 gh, .int .i64 gq.n, .int .u64 gq.a, .int .u64 gq.b] 145 (0, 0))) (hgr : IsTE w grp gr) (hgl : IsTE w glp gl) (ho : IsTE w op o) (hcmp : gl.ht ≤ gr.ht) (hw0 : (Tr.node o k v s gl).wt tSz ≤ 4611686018427387904) (hw1 : (Tr.node (Tr.node o k v s gl) gk gv gs gr).wt tSz ≤ 4611686018427387904) :
    Calls Tryd.prog 106 #[.pointer (some ⟨tb, 0, none⟩), .agg #[.string k, .string v.k, .int .i64 v.c, .int .i64 v.n, .string v.v, .bool v.d, .int .i64 s.n, .int .u64 s.a, .int .u64 s.b], .pointer op, .pointer (some ⟨bg, 0, none⟩)] w fun e w' => ∃ p, e = .returned (.pointer p) ∧ IsTE w' p (Tr.node (Tr.node o k v s gl) gk gv gs gr) ∧ CntE c ((n + Tr.hangC o gl) + Tr.hangC (Tr.node o k v s gl) gr) w' ∧ Keeps (OnC c) w w' := by
  have H := aside (lstE k v s ht hc)
  have HC := aside hc
  have HG := aside hg
  skip
  have CO := aside (fun (W : World) (h : Stay 145 w W) => levelsE (hgr.on h))
  have CI := aside (fun (W : World) (h : Stay 145 w W) => levelsE (hgl.on h))
  have hcm : (gl.ht : Int) ≤ (gr.ht : Int) := by omega
  generalize (gr.ht : Int) = ho1 at *
  generalize (gl.ht : Int) = hi1 at *
  have h1 := nodeE (H.out.stay _ _ hg)
  obtain ⟨-, -, -, -, -, -, -, -, -, g9, g10, -, -, -, -, -⟩ := h1
  clear ht hc hg hcmp
  go_enter Tryd.func106, Tryd.ntmps106
  go_wp2_with fail
  refine (CO.out _ H.out.stay).mono ?_
  rintro e w1 ⟨rfl, rfl⟩
  go_wp2_with fail
  refine (CI.out _ H.out.stay).mono ?_
  rintro e w1 ⟨rfl, rfl⟩
  go_wp2_with fail
  clear g9 g10 CO CI
  generalize w.alloc (.cells #[.string k, .string v.k, .int .i64 v.c, .int .i64 v.n, .string v.v, .bool v.d, .int .i64 s.n, .int .u64 s.a, .int .u64 s.b] 143) = V at *
  refine wp_region_held_drew (S := fun X => X.cell? ⟨w.heap.size, 0, none⟩ = some (.string k) ∧ X.cell? ⟨w.heap.size, 1, none⟩ = some (.string v.k) ∧ X.cell? ⟨w.heap.size, 2, none⟩ = some (.int .i64 v.c) ∧ X.cell? ⟨w.heap.size, 3, none⟩ = some (.int .i64 v.n) ∧ X.cell? ⟨w.heap.size, 4, none⟩ = some (.string v.v) ∧ X.cell? ⟨w.heap.size, 5, none⟩ = some (.bool v.d) ∧ X.cell? ⟨w.heap.size, 6, none⟩ = some (.int .i64 s.n) ∧ X.cell? ⟨w.heap.size, 7, none⟩ = some (.int .u64 s.a) ∧ X.cell? ⟨w.heap.size, 8, none⟩ = some (.int .u64 s.b) ∧ X.cell? ⟨bg, 0, none⟩ = some (.string gk) ∧ X.cell? ⟨bg, 1, none⟩ = some (.string gv.k) ∧ X.cell? ⟨bg, 2, none⟩ = some (.int .i64 gv.c) ∧ X.cell? ⟨bg, 3, none⟩ = some (.int .i64 gv.n) ∧ X.cell? ⟨bg, 4, none⟩ = some (.string gv.v) ∧ X.cell? ⟨bg, 5, none⟩ = some (.bool gv.d) ∧ X.cell? ⟨bg, 6, none⟩ = some (.int .i64 gs.n) ∧ X.cell? ⟨bg, 7, none⟩ = some (.int .u64 gs.a) ∧ X.cell? ⟨bg, 8, none⟩ = some (.int .u64 gs.b) ∧ X.cell? ⟨bg, 10, none⟩ = some (.pointer grp)) (by kernel_rfl) (turnLAE_held H.out.drew HG.out) (fun hHeld => ?_)
  refine wpAnyH_take (i := 0) (v := ?_) rfl (by kernel_rfl) (by kernel_rfl) (by kernel_rfl) (fun _ _ _ h => h) (Or.inl ⟨by rfl, ?_⟩) (by assumption) ?_
  rotate_left
  · intro w hSw
    go_simp
    try with_reducible rfl
  simp only [Act.put, List.getElem_toArray, List.getElem_cons_zero, List.setIfInBounds_toArray, List.set_cons_zero, List.set_cons_succ]
  refine wpAnyH_take (i := 1) (v := ?_) rfl (by kernel_rfl) (by kernel_rfl) (by kernel_rfl) (fun _ _ _ h => h) (Or.inl ⟨by rfl, ?_⟩) (by assumption) ?_
  rotate_left
  · intro w hSw
    go_simp
    try with_reducible rfl
  simp only [Act.put, List.getElem_toArray, List.getElem_cons_zero, List.getElem_cons_succ, List.setIfInBounds_toArray, List.set_cons_zero, List.set_cons_succ]
  refine wpAnyH_take (i := 2) (v := ?_) rfl (by kernel_rfl) (by kernel_rfl) (by kernel_rfl) (fun _ _ _ h => h) (Or.inl ⟨by rfl, ?_⟩) (by assumption) ?_
  rotate_left
  · intro w hSw
    go_simp
    try with_reducible rfl
  simp only [Act.put, List.getElem_toArray, List.getElem_cons_zero, List.getElem_cons_succ, List.setIfInBounds_toArray, List.set_cons_zero, List.set_cons_succ]
  refine wpAnyH_take (i := 3) (v := ?_) rfl (by kernel_rfl) (by kernel_rfl) (by kernel_rfl) (fun _ _ _ h => h) (Or.inl ⟨by rfl, ?_⟩) (by assumption) ?_
  rotate_left
  · intro w hSw
    go_simp
    try with_reducible rfl
  simp only [Act.put, List.getElem_toArray, List.getElem_cons_zero, List.getElem_cons_succ, List.setIfInBounds_toArray, List.set_cons_zero, List.set_cons_succ]
  refine wpAnyH_take (i := 4) (v := ?_) rfl (by kernel_rfl) (by kernel_rfl) (by kernel_rfl) (fun _ _ _ h => h) (Or.inl ⟨by rfl, ?_⟩) (by assumption) ?_
  rotate_left
  · intro w hSw
    go_simp
    try with_reducible rfl
  simp only [Act.put, List.getElem_toArray, List.getElem_cons_zero, List.getElem_cons_succ, List.setIfInBounds_toArray, List.set_cons_zero, List.set_cons_succ]
  refine wpAnyH_take (i := 5) (v := ?_) rfl (by kernel_rfl) (by kernel_rfl) (by kernel_rfl) (fun _ _ _ h => h) (Or.inl ⟨by rfl, ?_⟩) (by assumption) ?_
  rotate_left
  · intro w hSw
    go_simp
    try with_reducible rfl
  simp only [Act.put, List.getElem_toArray, List.getElem_cons_zero, List.getElem_cons_succ, List.setIfInBounds_toArray, List.set_cons_zero, List.set_cons_succ]
  refine wpAnyH_take (i := 6) (v := ?_) rfl (by kernel_rfl) (by kernel_rfl) (by kernel_rfl) (fun _ _ _ h => h) (Or.inl ⟨by rfl, ?_⟩) (by assumption) ?_
  rotate_left
  · intro w hSw
    go_simp
    try with_reducible rfl
  simp only [Act.put, List.getElem_toArray, List.getElem_cons_zero, List.getElem_cons_succ, List.setIfInBounds_toArray, List.set_cons_zero, List.set_cons_succ]
  refine wpAnyH_take (i := 7) (v := ?_) rfl (by kernel_rfl) (by kernel_rfl) (by kernel_rfl) (fun _ _ _ h => h) (Or.inl ⟨by rfl, ?_⟩) (by assumption) ?_
  rotate_left
  · intro w hSw
    go_simp
    try with_reducible rfl
  simp only [Act.put, List.getElem_toArray, List.getElem_cons_zero, List.getElem_cons_succ, List.setIfInBounds_toArray, List.set_cons_zero, List.set_cons_succ]
  refine wpAnyH_take (i := 8) (v := ?_) rfl (by kernel_rfl) (by kernel_rfl) (by kernel_rfl) (fun _ _ _ h => h) (Or.inl ⟨by rfl, ?_⟩) (by assumption) ?_
  rotate_left
  · intro w hSw
    go_simp
    try with_reducible rfl
  simp only [Act.put, List.getElem_toArray, List.getElem_cons_zero, List.getElem_cons_succ, List.setIfInBounds_toArray, List.set_cons_zero, List.set_cons_succ]
  refine wpAnyH_take (i := 10) (v := ?_) rfl (by kernel_rfl) (by kernel_rfl) (by kernel_rfl) (fun _ _ _ h => h) (Or.inl ⟨by rfl, ?_⟩) (by assumption) ?_
  rotate_left
  · intro w hSw
    go_simp
    try with_reducible rfl
  simp only [Act.put, List.getElem_toArray, List.getElem_cons_zero, List.getElem_cons_succ, List.setIfInBounds_toArray, List.set_cons_zero, List.set_cons_succ]
  refine wpAnyH_take (i := 11) (v := ?_) rfl (by kernel_rfl) (by kernel_rfl) (by kernel_rfl) (fun _ _ _ h => h) (Or.inl ⟨by rfl, ?_⟩) (by assumption) ?_
  rotate_left
  · intro w hSw
    go_simp
    try with_reducible rfl
  simp only [Act.put, List.getElem_toArray, List.getElem_cons_zero, List.getElem_cons_succ, List.setIfInBounds_toArray, List.set_cons_zero, List.set_cons_succ]
  refine wpAnyH_take (i := 12) (v := ?_) rfl (by kernel_rfl) (by kernel_rfl) (by kernel_rfl) (fun _ _ _ h => h) (Or.inl ⟨by rfl, ?_⟩) (by assumption) ?_
  rotate_left
  · intro w hSw
    go_simp
    try with_reducible rfl
  simp only [Act.put, List.getElem_toArray, List.getElem_cons_zero, List.getElem_cons_succ, List.setIfInBounds_toArray, List.set_cons_zero, List.set_cons_succ]
  refine wpAnyH_take (i := 13) (v := ?_) rfl (by kernel_rfl) (by kernel_rfl) (by kernel_rfl) (fun _ _ _ h => h) (Or.inl ⟨by rfl, ?_⟩) (by assumption) ?_
  rotate_left
  · intro w hSw
    go_simp
    try with_reducible rfl
  simp only [Act.put, List.getElem_toArray, List.getElem_cons_zero, List.getElem_cons_succ, List.setIfInBounds_toArray, List.set_cons_zero, List.set_cons_succ]
  refine wpAnyH_ready (rs := [9]) (by kernel_rfl) (by simp) ?_
  refine AllReadyH.cons rfl (fun K hK => ?_) AllReadyH.nil
  go_simp
  refine (hangE HB k v s H.out.drew.tobj H.out.drew.cnt (ho.on H.out.drew.stay) (hgl.on H.out.drew.stay) hw0).mono ?_
  rintro e w9 ⟨p1, rfl, ii, bc, kk⟩
  refine hK.out _ _ (turnLAE_held (H.out.drew.on HC.out kk bc) HG.out) (fun hHeld => ?_)
  clear hK K 
  have H1 := aside (H.out.drew.on HC.out kk bc)
  have I1 := aside ii
  clear ii bc kk
  refine wpAnyH_ready (rs := [14]) (by kernel_rfl) (by simp) ?_
  refine AllReadyH.cons rfl (fun K hK => ?_) AllReadyH.nil
  go_simp
  refine (hangE HB gk gv gs H1.out.tobj H1.out.cnt I1.out (hgr.on H1.out.stay) hw1).mono ?_
  rintro e w9 ⟨p2, rfl, ii, bc, kk⟩
  refine hK.out _ _ (turnLAE_held (H1.out.on HC.out kk bc) HG.out) (fun hHeld => ?_)
  clear hK K 
  have H2 := aside (H1.out.on HC.out kk bc)
  have I2 := aside ii
  clear ii bc kk
  refine wpAnyH_take (i := 15) (v := ?_) rfl (by kernel_rfl) (by kernel_rfl) (by kernel_rfl) (fun _ _ _ h => h) (Or.inl ⟨by rfl, ?_⟩) (by assumption) ?_
  rotate_left
  · intro w hSw
    go_simp
    try with_reducible rfl
  simp only [Act.put, List.getElem_toArray, List.getElem_cons_zero, List.getElem_cons_succ, List.setIfInBounds_toArray, List.set_cons_zero, List.set_cons_succ]
  refine wpAnyH_done (by kernel_rfl) ?_ _
  go_wp2
  exact bodyPost_ret (v := .pointer p2) (by simp [results, Tryd.results106, go_sem]) rfl ⟨p2, rfl, I2.out, H2.out.cnt, H2.out.keeps⟩
end Go.Proofs.YtlbkcndmljlnmaaDoor

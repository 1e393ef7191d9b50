/-
  turnLeft (E), case B.
  level (E).
  down (E): the way to a key.
-/
import Derived.Test.YtlbkcndmljlnmaaDoorBx9
import Derived.Test.YtlbkcndmljlnmaaDoorBx10
import Derived.Test.YtlbkcndmljlnmaaDoorBx6
import Derived.Test.YtlbkcndmljlnmaaDoorBx7
import Derived.Deep.LoopGhost
import Derived.Deep.AppendLies
import Derived.WalkMore
namespace Go.Proofs.YtlbkcndmljlnmaaDoor
open Go.RowKit
set_option linter.unusedVariables false
theorem turnLBE_held {w X : World} {tb n : Nat} {jv : Value} {root : Option Addr} {c : Option Nat} {k gk : ByteArray} {v gv : En} {s gs gq : Tl} {bg : Nat} {grp : Option Addr} {gc gh : Int} {bi : Nat} {ik : ByteArray} {iv : En} {is iq : Tl} {ap bp : Option Addr} {ic ih : Int} (h : LStE w X tb n jv root c k v s) (hg : w.heap[bg]? = some (.cells #[.string gk, .string gv.k, .int .i64 gv.c, .int .i64 gv.n, .string gv.v, .bool gv.d, .int .i64 gs.n, .int .u64 gs.a, .int .u64 gs.b, .pointer (some ⟨bi, 0, none⟩), .pointer grp, .int .i64 gc, .int .i64 gh, .int .i64 gq.n, .int .u64 gq.a, .int .u64 gq.b] 145 (0, 0))) (hi : w.heap[bi]? = some (.cells #[.string ik, .string iv.k, .int .i64 iv.c, .int .i64 iv.n, .string iv.v, .bool iv.d, .int .i64 is.n, .int .u64 is.a, .int .u64 is.b, .pointer ap, .pointer bp, .int .i64 ic, .int .i64 ih, .int .i64 iq.n, .int .u64 iq.a, .int .u64 iq.b] 145 (0, 0))) : X.cell? ⟨w.heap.size, 0, none⟩ = some (.string k) ∧ X.cell? ⟨w.heap.size, 1, none⟩ = some (.string v.k) ∧ X.cell? ⟨w.heap.size, 2, none⟩ = some (.int .i64 v.c) ∧ X.cell? ⟨w.heap.size, 3, none⟩ = some (.int .i64 v.n) ∧ X.cell? ⟨w.heap.size, 4, none⟩ = some (.string v.v) ∧ X.cell? ⟨w.heap.size, 5, none⟩ = some (.bool v.d) ∧ X.cell? ⟨w.heap.size, 6, none⟩ = some (.int .i64 s.n) ∧ X.cell? ⟨w.heap.size, 7, none⟩ = some (.int .u64 s.a) ∧ X.cell? ⟨w.heap.size, 8, none⟩ = some (.int .u64 s.b) ∧ X.cell? ⟨bg, 0, none⟩ = some (.string gk) ∧ X.cell? ⟨bg, 1, none⟩ = some (.string gv.k) ∧ X.cell? ⟨bg, 2, none⟩ = some (.int .i64 gv.c) ∧ X.cell? ⟨bg, 3, none⟩ = some (.int .i64 gv.n) ∧ X.cell? ⟨bg, 4, none⟩ = some (.string gv.v) ∧ X.cell? ⟨bg, 5, none⟩ = some (.bool gv.d) ∧ X.cell? ⟨bg, 6, none⟩ = some (.int .i64 gs.n) ∧ X.cell? ⟨bg, 7, none⟩ = some (.int .u64 gs.a) ∧ X.cell? ⟨bg, 8, none⟩ = some (.int .u64 gs.b) ∧ X.cell? ⟨bg, 10, none⟩ = some (.pointer grp) ∧ X.cell? ⟨bi, 0, none⟩ = some (.string ik) ∧ X.cell? ⟨bi, 1, none⟩ = some (.string iv.k) ∧ X.cell? ⟨bi, 2, none⟩ = some (.int .i64 iv.c) ∧ X.cell? ⟨bi, 3, none⟩ = some (.int .i64 iv.n) ∧ X.cell? ⟨bi, 4, none⟩ = some (.string iv.v) ∧ X.cell? ⟨bi, 5, none⟩ = some (.bool iv.d) ∧ X.cell? ⟨bi, 6, none⟩ = some (.int .i64 is.n) ∧ X.cell? ⟨bi, 7, none⟩ = some (.int .u64 is.a) ∧ X.cell? ⟨bi, 8, none⟩ = some (.int .u64 is.b) ∧ X.cell? ⟨bi, 9, none⟩ = some (.pointer ap) ∧ X.cell? ⟨bi, 10, none⟩ = some (.pointer bp) := by
  obtain ⟨r0, r1, r2, r3, r4, r5, r6, r7, r8⟩ := h.cells
  obtain ⟨g0, g1, g2, g3, g4, g5, g6, g7, g8, -, g10, -, -, -, -, -⟩ := nodeE (h.stay _ _ hg)
  obtain ⟨i0, i1, i2, i3, i4, i5, i6, i7, i8, i9, i10, -, -, -, -, -⟩ := nodeE (h.stay _ _ hi)
  exact ⟨r0, r1, r2, r3, r4, r5, r6, r7, r8, g0, g1, g2, g3, g4, g5, g6, g7, g8, g10, i0, i1, i2, i3, i4, i5, i6, i7, i8, i9, i10⟩
set_option maxHeartbeats 3200000 in
set_option maxRecDepth 100000 in
theorem turnLBE {jv : Value} {c : Option Nat} (HB : BothOkE jv c) {w : World} {tb n : Nat} {root : Option Addr} (k : ByteArray) (v : En) (s : Tl) {gk : ByteArray} {gv : En} {gs gq : Tl} {bg : Nat} {grp op : Option Addr} {gc gh : Int} {bi : Nat} {ik : ByteArray} {iv : En} {is iq : Tl} {ap bp : Option Addr} {ic ih : Int} {a b : Tr En Tl} {gr o inn : Tr En Tl} 
    (ht : TObjE w tb jv root) (hc : CntE c n w) (hg : w.heap[bg]? = some (.cells #[.string gk, .string gv.k, .int .i64 gv.c, .int .i64 gv.n, .string gv.v, .bool gv.d, .int .i64 gs.n, .int .u64 gs.a, .int .u64 gs.b, .pointer (some ⟨bi, 0, none⟩), .pointer grp, .int .i64 gc, .int .i64 gh, .int .i64 gq.n, .int .u64 gq.a, .int .u64 gq.b] 145 (0, 0))) (hi : w.heap[bi]? = some (.cells #[.string ik, .string iv.k, .int .i64 iv.c, .int .i64 iv.n, .string iv.v, .bool iv.d, .int .i64 is.n, .int .u64 is.a, .int .u64 is.b, .pointer ap, .pointer bp, .int .i64 ic, .int .i64 ih, .int .i64 iq.n, .int .u64 iq.a, .int .u64 iq.b] 145 (0, 0))) (hgr : IsTE w grp gr) (ha : IsTE w ap a) (hb : IsTE w bp b) (hin : IsTE w (some ⟨bi, 0, none⟩) inn) (ho : IsTE w op o) (hcmp : gr.ht < inn.ht) (hw0 : (Tr.node o k v s a).wt tSz ≤ 4611686018427387904) (hw1 : (Tr.node b gk gv gs gr).wt tSz ≤ 4611686018427387904) (hw2 : (Tr.node (Tr.node o k v s a) ik iv is (Tr.node b gk gv gs gr)).wt tSz ≤ 4611686018427387904) :
    Calls Tryd.prog 106 #[.pointer (some ⟨tb, 0, none⟩), .agg #[.string k, .string v.k, .int .i64 v.c, .int .i64 v.n, .string v.v, .bool v.d, .int .i64 s.n, .int .u64 s.a, .int .u64 s.b], .pointer op, .pointer (some ⟨bg, 0, none⟩)] w fun e w' => ∃ p, e = .returned (.pointer p) ∧ IsTE w' p (Tr.node (Tr.node o k v s a) ik iv is (Tr.node b gk gv gs gr)) ∧ CntE c (((n + Tr.hangC o a) + Tr.hangC b gr) + Tr.hangC (Tr.node o k v s a) (Tr.node b gk gv gs gr)) w' ∧ Keeps (OnC c) w w' := by
  have H := aside (lstE k v s ht hc)
  have HC := aside hc
  have HG := aside hg
  have HI := aside hi
  have CO := aside (fun (W : World) (h : Stay 145 w W) => levelsE (hgr.on h))
  have CI := aside (fun (W : World) (h : Stay 145 w W) => levelsE (hin.on h))
  have hcm : ¬ (inn.ht : Int) ≤ (gr.ht : Int) := by omega
  generalize (gr.ht : Int) = ho1 at *
  generalize (inn.ht : Int) = hi1 at *
  have h1 := nodeE (H.out.stay _ _ hg)
  obtain ⟨-, -, -, -, -, -, -, -, -, g9, g10, -, -, -, -, -⟩ := h1
  clear ht hc hg hi hcmp
  go_enter Tryd.func106, Tryd.ntmps106
  go_wp2_with fail
  refine (CO.out _ H.out.stay).mono ?_
  rintro e w1 ⟨rfl, rfl⟩
  go_wp2_with fail
  refine (CI.out _ H.out.stay).mono ?_
  rintro e w1 ⟨rfl, rfl⟩
  go_wp2_with fail
  clear g9 g10 CO CI
  generalize w.alloc (.cells #[.string k, .string v.k, .int .i64 v.c, .int .i64 v.n, .string v.v, .bool v.d, .int .i64 s.n, .int .u64 s.a, .int .u64 s.b] 143) = V at *
  refine wp_region_held_drew (S := fun X => X.cell? ⟨w.heap.size, 0, none⟩ = some (.string k) ∧ X.cell? ⟨w.heap.size, 1, none⟩ = some (.string v.k) ∧ X.cell? ⟨w.heap.size, 2, none⟩ = some (.int .i64 v.c) ∧ X.cell? ⟨w.heap.size, 3, none⟩ = some (.int .i64 v.n) ∧ X.cell? ⟨w.heap.size, 4, none⟩ = some (.string v.v) ∧ X.cell? ⟨w.heap.size, 5, none⟩ = some (.bool v.d) ∧ X.cell? ⟨w.heap.size, 6, none⟩ = some (.int .i64 s.n) ∧ X.cell? ⟨w.heap.size, 7, none⟩ = some (.int .u64 s.a) ∧ X.cell? ⟨w.heap.size, 8, none⟩ = some (.int .u64 s.b) ∧ X.cell? ⟨bg, 0, none⟩ = some (.string gk) ∧ X.cell? ⟨bg, 1, none⟩ = some (.string gv.k) ∧ X.cell? ⟨bg, 2, none⟩ = some (.int .i64 gv.c) ∧ X.cell? ⟨bg, 3, none⟩ = some (.int .i64 gv.n) ∧ X.cell? ⟨bg, 4, none⟩ = some (.string gv.v) ∧ X.cell? ⟨bg, 5, none⟩ = some (.bool gv.d) ∧ X.cell? ⟨bg, 6, none⟩ = some (.int .i64 gs.n) ∧ X.cell? ⟨bg, 7, none⟩ = some (.int .u64 gs.a) ∧ X.cell? ⟨bg, 8, none⟩ = some (.int .u64 gs.b) ∧ X.cell? ⟨bg, 10, none⟩ = some (.pointer grp) ∧ X.cell? ⟨bi, 0, none⟩ = some (.string ik) ∧ X.cell? ⟨bi, 1, none⟩ = some (.string iv.k) ∧ X.cell? ⟨bi, 2, none⟩ = some (.int .i64 iv.c) ∧ X.cell? ⟨bi, 3, none⟩ = some (.int .i64 iv.n) ∧ X.cell? ⟨bi, 4, none⟩ = some (.string iv.v) ∧ X.cell? ⟨bi, 5, none⟩ = some (.bool iv.d) ∧ X.cell? ⟨bi, 6, none⟩ = some (.int .i64 is.n) ∧ X.cell? ⟨bi, 7, none⟩ = some (.int .u64 is.a) ∧ X.cell? ⟨bi, 8, none⟩ = some (.int .u64 is.b) ∧ X.cell? ⟨bi, 9, none⟩ = some (.pointer ap) ∧ X.cell? ⟨bi, 10, none⟩ = some (.pointer bp)) (by kernel_rfl) (turnLBE_held H.out.drew HG.out HI.out) (fun hHeld => ?_)
  refine wpAnyH_take (i := 0) (v := ?_) rfl (by kernel_rfl) (by kernel_rfl) (by kernel_rfl) (fun _ _ _ h => h) (Or.inl ⟨by rfl, ?_⟩) (by assumption) ?_
  rotate_left
  · intro w hSw
    go_simp
    try with_reducible rfl
  simp only [Act.put, List.getElem_toArray, List.getElem_cons_zero, List.setIfInBounds_toArray, List.set_cons_zero, List.set_cons_succ]
  refine wpAnyH_take (i := 1) (v := ?_) rfl (by kernel_rfl) (by kernel_rfl) (by kernel_rfl) (fun _ _ _ h => h) (Or.inl ⟨by rfl, ?_⟩) (by assumption) ?_
  rotate_left
  · intro w hSw
    go_simp
    try with_reducible rfl
  simp only [Act.put, List.getElem_toArray, List.getElem_cons_zero, List.getElem_cons_succ, List.setIfInBounds_toArray, List.set_cons_zero, List.set_cons_succ]
  refine wpAnyH_take (i := 2) (v := ?_) rfl (by kernel_rfl) (by kernel_rfl) (by kernel_rfl) (fun _ _ _ h => h) (Or.inl ⟨by rfl, ?_⟩) (by assumption) ?_
  rotate_left
  · intro w hSw
    go_simp
    try with_reducible rfl
  simp only [Act.put, List.getElem_toArray, List.getElem_cons_zero, List.getElem_cons_succ, List.setIfInBounds_toArray, List.set_cons_zero, List.set_cons_succ]
  refine wpAnyH_take (i := 3) (v := ?_) rfl (by kernel_rfl) (by kernel_rfl) (by kernel_rfl) (fun _ _ _ h => h) (Or.inl ⟨by rfl, ?_⟩) (by assumption) ?_
  rotate_left
  · intro w hSw
    go_simp
    try with_reducible rfl
  simp only [Act.put, List.getElem_toArray, List.getElem_cons_zero, List.getElem_cons_succ, List.setIfInBounds_toArray, List.set_cons_zero, List.set_cons_succ]
  refine wpAnyH_take (i := 4) (v := ?_) rfl (by kernel_rfl) (by kernel_rfl) (by kernel_rfl) (fun _ _ _ h => h) (Or.inl ⟨by rfl, ?_⟩) (by assumption) ?_
  rotate_left
  · intro w hSw
    go_simp
    try with_reducible rfl
  simp only [Act.put, List.getElem_toArray, List.getElem_cons_zero, List.getElem_cons_succ, List.setIfInBounds_toArray, List.set_cons_zero, List.set_cons_succ]
  refine wpAnyH_take (i := 5) (v := ?_) rfl (by kernel_rfl) (by kernel_rfl) (by kernel_rfl) (fun _ _ _ h => h) (Or.inl ⟨by rfl, ?_⟩) (by assumption) ?_
  rotate_left
  · intro w hSw
    go_simp
    try with_reducible rfl
  simp only [Act.put, List.getElem_toArray, List.getElem_cons_zero, List.getElem_cons_succ, List.setIfInBounds_toArray, List.set_cons_zero, List.set_cons_succ]
  refine wpAnyH_take (i := 6) (v := ?_) rfl (by kernel_rfl) (by kernel_rfl) (by kernel_rfl) (fun _ _ _ h => h) (Or.inl ⟨by rfl, ?_⟩) (by assumption) ?_
  rotate_left
  · intro w hSw
    go_simp
    try with_reducible rfl
  simp only [Act.put, List.getElem_toArray, List.getElem_cons_zero, List.getElem_cons_succ, List.setIfInBounds_toArray, List.set_cons_zero, List.set_cons_succ]
  refine wpAnyH_take (i := 7) (v := ?_) rfl (by kernel_rfl) (by kernel_rfl) (by kernel_rfl) (fun _ _ _ h => h) (Or.inl ⟨by rfl, ?_⟩) (by assumption) ?_
  rotate_left
  · intro w hSw
    go_simp
    try with_reducible rfl
  simp only [Act.put, List.getElem_toArray, List.getElem_cons_zero, List.getElem_cons_succ, List.setIfInBounds_toArray, List.set_cons_zero, List.set_cons_succ]
  refine wpAnyH_take (i := 8) (v := ?_) rfl (by kernel_rfl) (by kernel_rfl) (by kernel_rfl) (fun _ _ _ h => h) (Or.inl ⟨by rfl, ?_⟩) (by assumption) ?_
  rotate_left
  · intro w hSw
    go_simp
    try with_reducible rfl
  simp only [Act.put, List.getElem_toArray, List.getElem_cons_zero, List.getElem_cons_succ, List.setIfInBounds_toArray, List.set_cons_zero, List.set_cons_succ]
  refine wpAnyH_take (i := 9) (v := ?_) rfl (by kernel_rfl) (by kernel_rfl) (by kernel_rfl) (fun _ _ _ h => h) (Or.inl ⟨by rfl, ?_⟩) (by assumption) ?_
  rotate_left
  · intro w hSw
    go_simp
    try with_reducible rfl
  simp only [Act.put, List.getElem_toArray, List.getElem_cons_zero, List.getElem_cons_succ, List.setIfInBounds_toArray, List.set_cons_zero, List.set_cons_succ]
  refine wpAnyH_take (i := 10) (v := ?_) rfl (by kernel_rfl) (by kernel_rfl) (by kernel_rfl) (fun _ _ _ h => h) (Or.inl ⟨by rfl, ?_⟩) (by assumption) ?_
  rotate_left
  · intro w hSw
    go_simp
    try with_reducible rfl
  simp only [Act.put, List.getElem_toArray, List.getElem_cons_zero, List.getElem_cons_succ, List.setIfInBounds_toArray, List.set_cons_zero, List.set_cons_succ]
  refine wpAnyH_take (i := 11) (v := ?_) rfl (by kernel_rfl) (by kernel_rfl) (by kernel_rfl) (fun _ _ _ h => h) (Or.inl ⟨by rfl, ?_⟩) (by assumption) ?_
  rotate_left
  · intro w hSw
    go_simp
    try with_reducible rfl
  simp only [Act.put, List.getElem_toArray, List.getElem_cons_zero, List.getElem_cons_succ, List.setIfInBounds_toArray, List.set_cons_zero, List.set_cons_succ]
  refine wpAnyH_take (i := 13) (v := ?_) rfl (by kernel_rfl) (by kernel_rfl) (by kernel_rfl) (fun _ _ _ h => h) (Or.inl ⟨by rfl, ?_⟩) (by assumption) ?_
  rotate_left
  · intro w hSw
    go_simp
    try with_reducible rfl
  simp only [Act.put, List.getElem_toArray, List.getElem_cons_zero, List.getElem_cons_succ, List.setIfInBounds_toArray, List.set_cons_zero, List.set_cons_succ]
  refine wpAnyH_take (i := 14) (v := ?_) rfl (by kernel_rfl) (by kernel_rfl) (by kernel_rfl) (fun _ _ _ h => h) (Or.inl ⟨by rfl, ?_⟩) (by assumption) ?_
  rotate_left
  · intro w hSw
    go_simp
    try with_reducible rfl
  simp only [Act.put, List.getElem_toArray, List.getElem_cons_zero, List.getElem_cons_succ, List.setIfInBounds_toArray, List.set_cons_zero, List.set_cons_succ]
  refine wpAnyH_take (i := 15) (v := ?_) rfl (by kernel_rfl) (by kernel_rfl) (by kernel_rfl) (fun _ _ _ h => h) (Or.inl ⟨by rfl, ?_⟩) (by assumption) ?_
  rotate_left
  · intro w hSw
    go_simp
    try with_reducible rfl
  simp only [Act.put, List.getElem_toArray, List.getElem_cons_zero, List.getElem_cons_succ, List.setIfInBounds_toArray, List.set_cons_zero, List.set_cons_succ]
  refine wpAnyH_take (i := 16) (v := ?_) rfl (by kernel_rfl) (by kernel_rfl) (by kernel_rfl) (fun _ _ _ h => h) (Or.inl ⟨by rfl, ?_⟩) (by assumption) ?_
  rotate_left
  · intro w hSw
    go_simp
    try with_reducible rfl
  simp only [Act.put, List.getElem_toArray, List.getElem_cons_zero, List.getElem_cons_succ, List.setIfInBounds_toArray, List.set_cons_zero, List.set_cons_succ]
  refine wpAnyH_take (i := 17) (v := ?_) rfl (by kernel_rfl) (by kernel_rfl) (by kernel_rfl) (fun _ _ _ h => h) (Or.inl ⟨by rfl, ?_⟩) (by assumption) ?_
  rotate_left
  · intro w hSw
    go_simp
    try with_reducible rfl
  simp only [Act.put, List.getElem_toArray, List.getElem_cons_zero, List.getElem_cons_succ, List.setIfInBounds_toArray, List.set_cons_zero, List.set_cons_succ]
  refine wpAnyH_take (i := 18) (v := ?_) rfl (by kernel_rfl) (by kernel_rfl) (by kernel_rfl) (fun _ _ _ h => h) (Or.inl ⟨by rfl, ?_⟩) (by assumption) ?_
  rotate_left
  · intro w hSw
    go_simp
    try with_reducible rfl
  simp only [Act.put, List.getElem_toArray, List.getElem_cons_zero, List.getElem_cons_succ, List.setIfInBounds_toArray, List.set_cons_zero, List.set_cons_succ]
  refine wpAnyH_take (i := 19) (v := ?_) rfl (by kernel_rfl) (by kernel_rfl) (by kernel_rfl) (fun _ _ _ h => h) (Or.inl ⟨by rfl, ?_⟩) (by assumption) ?_
  rotate_left
  · intro w hSw
    go_simp
    try with_reducible rfl
  simp only [Act.put, List.getElem_toArray, List.getElem_cons_zero, List.getElem_cons_succ, List.setIfInBounds_toArray, List.set_cons_zero, List.set_cons_succ]
  refine wpAnyH_take (i := 20) (v := ?_) rfl (by kernel_rfl) (by kernel_rfl) (by kernel_rfl) (fun _ _ _ h => h) (Or.inl ⟨by rfl, ?_⟩) (by assumption) ?_
  rotate_left
  · intro w hSw
    go_simp
    try with_reducible rfl
  simp only [Act.put, List.getElem_toArray, List.getElem_cons_zero, List.getElem_cons_succ, List.setIfInBounds_toArray, List.set_cons_zero, List.set_cons_succ]
  refine wpAnyH_take (i := 21) (v := ?_) rfl (by kernel_rfl) (by kernel_rfl) (by kernel_rfl) (fun _ _ _ h => h) (Or.inl ⟨by rfl, ?_⟩) (by assumption) ?_
  rotate_left
  · intro w hSw
    go_simp
    try with_reducible rfl
  simp only [Act.put, List.getElem_toArray, List.getElem_cons_zero, List.getElem_cons_succ, List.setIfInBounds_toArray, List.set_cons_zero, List.set_cons_succ]
  refine wpAnyH_take (i := 22) (v := ?_) rfl (by kernel_rfl) (by kernel_rfl) (by kernel_rfl) (fun _ _ _ h => h) (Or.inl ⟨by rfl, ?_⟩) (by assumption) ?_
  rotate_left
  · intro w hSw
    go_simp
    try with_reducible rfl
  simp only [Act.put, List.getElem_toArray, List.getElem_cons_zero, List.getElem_cons_succ, List.setIfInBounds_toArray, List.set_cons_zero, List.set_cons_succ]
  refine wpAnyH_take (i := 23) (v := ?_) rfl (by kernel_rfl) (by kernel_rfl) (by kernel_rfl) (fun _ _ _ h => h) (Or.inl ⟨by rfl, ?_⟩) (by assumption) ?_
  rotate_left
  · intro w hSw
    go_simp
    try with_reducible rfl
  simp only [Act.put, List.getElem_toArray, List.getElem_cons_zero, List.getElem_cons_succ, List.setIfInBounds_toArray, List.set_cons_zero, List.set_cons_succ]
  refine wpAnyH_take (i := 24) (v := ?_) rfl (by kernel_rfl) (by kernel_rfl) (by kernel_rfl) (fun _ _ _ h => h) (Or.inl ⟨by rfl, ?_⟩) (by assumption) ?_
  rotate_left
  · intro w hSw
    go_simp
    try with_reducible rfl
  simp only [Act.put, List.getElem_toArray, List.getElem_cons_zero, List.getElem_cons_succ, List.setIfInBounds_toArray, List.set_cons_zero, List.set_cons_succ]
  refine wpAnyH_take (i := 25) (v := ?_) rfl (by kernel_rfl) (by kernel_rfl) (by kernel_rfl) (fun _ _ _ h => h) (Or.inl ⟨by rfl, ?_⟩) (by assumption) ?_
  rotate_left
  · intro w hSw
    go_simp
    try with_reducible rfl
  simp only [Act.put, List.getElem_toArray, List.getElem_cons_zero, List.getElem_cons_succ, List.setIfInBounds_toArray, List.set_cons_zero, List.set_cons_succ]
  refine wpAnyH_ready (rs := [12]) (by kernel_rfl) (by simp) ?_
  refine AllReadyH.cons rfl (fun K hK => ?_) AllReadyH.nil
  go_simp
  refine (hangE HB k v s H.out.drew.tobj H.out.drew.cnt (ho.on H.out.drew.stay) (ha.on H.out.drew.stay) hw0).mono ?_
  rintro e w9 ⟨p1, rfl, ii, bc, kk⟩
  refine hK.out _ _ (turnLBE_held (H.out.drew.on HC.out kk bc) HG.out HI.out) (fun hHeld => ?_)
  clear hK K 
  have H1 := aside (H.out.drew.on HC.out kk bc)
  have I1 := aside ii
  clear ii bc kk
  refine wpAnyH_ready (rs := [26]) (by kernel_rfl) (by simp) ?_
  refine AllReadyH.cons rfl (fun K hK => ?_) AllReadyH.nil
  go_simp
  refine (hangE HB gk gv gs H1.out.tobj H1.out.cnt (hb.on H1.out.stay) (hgr.on H1.out.stay) hw1).mono ?_
  rintro e w9 ⟨p2, rfl, ii, bc, kk⟩
  refine hK.out _ _ (turnLBE_held (H1.out.on HC.out kk bc) HG.out HI.out) (fun hHeld => ?_)
  clear hK K 
  have H2 := aside (H1.out.on HC.out kk bc)
  have I2 := aside ii
  have I1b := aside (I1.out.on ((Stay.refl _ _).onE H1.out.cnt kk (by decide)))
  clear ii bc kk
  refine wpAnyH_ready (rs := [27]) (by kernel_rfl) (by simp) ?_
  refine AllReadyH.cons rfl (fun K hK => ?_) AllReadyH.nil
  go_simp
  refine (hangE HB ik iv is H2.out.tobj H2.out.cnt I1b.out I2.out hw2).mono ?_
  rintro e w9 ⟨p3, rfl, ii, bc, kk⟩
  refine hK.out _ _ (turnLBE_held (H2.out.on HC.out kk bc) HG.out HI.out) (fun hHeld => ?_)
  clear hK K 
  have H3 := aside (H2.out.on HC.out kk bc)
  have I3 := aside ii
  clear ii bc kk
  refine wpAnyH_take (i := 28) (v := ?_) rfl (by kernel_rfl) (by kernel_rfl) (by kernel_rfl) (fun _ _ _ h => h) (Or.inl ⟨by rfl, ?_⟩) (by assumption) ?_
  rotate_left
  · intro w hSw
    go_simp
    try with_reducible rfl
  simp only [Act.put, List.getElem_toArray, List.getElem_cons_zero, List.getElem_cons_succ, List.setIfInBounds_toArray, List.set_cons_zero, List.set_cons_succ]
  refine wpAnyH_done (by kernel_rfl) ?_ _
  go_wp2
  exact bodyPost_ret (v := .pointer p3) (by simp [results, Tryd.results106, go_sem]) rfl ⟨p3, rfl, I3.out, H3.out.cnt, H3.out.keeps⟩
end Go.Proofs.YtlbkcndmljlnmaaDoor
namespace Go.Proofs.YtlbkcndmljlnmaaDoor
open Go.RowKit
set_option linter.unusedVariables false
theorem turnRE {jv : Value} {c : Option Nat} (HB : BothOkE jv c) {w : World} {tb n : Nat} {root : Option Addr} {l r : Tr En Tl} {lp rp : Option Addr} (k : ByteArray) (v : En) (s : Tl)
    (ht : TObjE w tb jv root) (hc : CntE c n w) (hl : IsTE w lp l) (hr : IsTE w rp r) (hw : (Tr.node l k v s r).wt tSz ≤ 4611686018427387904) (hh : l.ht = r.ht + 2) :
    Calls Tryd.prog 105 #[.pointer (some ⟨tb, 0, none⟩), .agg #[.string k, .string v.k, .int .i64 v.c, .int .i64 v.n, .string v.v, .bool v.d, .int .i64 s.n, .int .u64 s.a, .int .u64 s.b], .pointer lp, .pointer rp] w fun e w' => ∃ p, e = .returned (.pointer p) ∧ IsTE w' p (Tr.turnR k v s l r) ∧ CntE c (n + Tr.turnRC l r) w' ∧ Keeps (OnC c) w w' := by
  cases l with
  | nil => simp [Tr.ht] at hh
  | node gl gk gv gs gr =>
    obtain ⟨bg, glp, grp, rfl, hg, hgl, hgr⟩ := hl
    simp only [Tr.wt] at hw
    by_cases hcmp : gr.ht ≤ gl.ht
    · simp only [Tr.turnR, Tr.turnRC, if_pos hcmp]
      refine (turnRAE HB k v s ht hc hg hgl hgr hr hcmp (by simp only [Tr.wt]; omega) (by simp only [Tr.wt]; omega)).mono fun e w' ⟨p, e1, e2, e3, e4⟩ => ⟨p, e1, e2, ?_, e4⟩
      rw [show Tr.hangC gl (gr.node k v s r) = if gl.isNil then 1 else 2 from by unfold Tr.hangC; cases gl.isNil <;> rfl] at e3
      rw [← Nat.add_assoc]
      exact e3
    · cases gr with
      | nil => simp [Tr.ht] at hcmp
      | node a ik iv is b =>
        simp only [Tr.turnR, Tr.turnRC, if_neg hcmp]
        have hgr' := hgr
        obtain ⟨bi, ap, bp, rfl, hi, ha, hb⟩ := hgr'
        simp only [Tr.wt] at hw
        refine (turnRBE HB k v s ht hc hg hi hgl ha hb hgr hr (by omega) (by simp only [Tr.wt]; omega) (by simp only [Tr.wt]; omega) (by simp only [Tr.wt]; omega)).mono fun e w' ⟨p, e1, e2, e3, e4⟩ => ⟨p, e1, e2, ?_, e4⟩
        rw [show Tr.hangC (gl.node gk gv gs a) (b.node k v s r) = 2 from rfl] at e3
        rw [← Nat.add_assoc, ← Nat.add_assoc]
        exact e3
theorem turnLE {jv : Value} {c : Option Nat} (HB : BothOkE jv c) {w : World} {tb n : Nat} {root : Option Addr} {l r : Tr En Tl} {lp rp : Option Addr} (k : ByteArray) (v : En) (s : Tl)
    (ht : TObjE w tb jv root) (hc : CntE c n w) (hl : IsTE w lp l) (hr : IsTE w rp r) (hw : (Tr.node l k v s r).wt tSz ≤ 4611686018427387904) (hh : r.ht = l.ht + 2) :
    Calls Tryd.prog 106 #[.pointer (some ⟨tb, 0, none⟩), .agg #[.string k, .string v.k, .int .i64 v.c, .int .i64 v.n, .string v.v, .bool v.d, .int .i64 s.n, .int .u64 s.a, .int .u64 s.b], .pointer lp, .pointer rp] w fun e w' => ∃ p, e = .returned (.pointer p) ∧ IsTE w' p (Tr.turnL k v s l r) ∧ CntE c (n + Tr.turnLC l r) w' ∧ Keeps (OnC c) w w' := by
  cases r with
  | nil => simp [Tr.ht] at hh
  | node gl gk gv gs gr =>
    obtain ⟨bg, glp, grp, rfl, hg, hgl, hgr⟩ := hr
    simp only [Tr.wt] at hw
    by_cases hcmp : gl.ht ≤ gr.ht
    · simp only [Tr.turnL, Tr.turnLC, if_pos hcmp]
      refine (turnLAE HB k v s ht hc hg hgr hgl hl hcmp (by simp only [Tr.wt]; omega) (by simp only [Tr.wt]; omega)).mono fun e w' ⟨p, e1, e2, e3, e4⟩ => ⟨p, e1, e2, ?_, e4⟩
      rw [show Tr.hangC (l.node k v s gl) gr = if gr.isNil then 1 else 2 from by unfold Tr.hangC; cases gr.isNil <;> rfl] at e3
      rw [← Nat.add_assoc]
      exact e3
    · cases gl with
      | nil => simp [Tr.ht] at hcmp
      | node a ik iv is b =>
        simp only [Tr.turnL, Tr.turnLC, if_neg hcmp]
        have hgl' := hgl
        obtain ⟨bi, ap, bp, rfl, hi, ha, hb⟩ := hgl'
        simp only [Tr.wt] at hw
        refine (turnLBE HB k v s ht hc hg hi hgr ha hb hgl hl (by omega) (by simp only [Tr.wt]; omega) (by simp only [Tr.wt]; omega) (by simp only [Tr.wt]; omega)).mono fun e w' ⟨p, e1, e2, e3, e4⟩ => ⟨p, e1, e2, ?_, e4⟩
        rw [show Tr.hangC (l.node k v s a) (b.node gk gv gs gr) = 2 from rfl] at e3
        rw [← Nat.add_assoc, ← Nat.add_assoc]
        exact e3
set_option maxHeartbeats 1600000 in
set_option maxRecDepth 100000 in
theorem levelAE {jv : Value} {c : Option Nat} (HB : BothOkE jv c) {w : World} {tb n : Nat} {root : Option Addr} {l r : Tr En Tl} {lp rp : Option Addr} (k : ByteArray) (v : En) (s : Tl)
    (ht : TObjE w tb jv root) (hc : CntE c n w) (hl : IsTE w lp l) (hr : IsTE w rp r) (hw : (Tr.node l k v s r).wt tSz ≤ 4611686018427387904) (hd : IntKind.i64.wrap ((l.ht : Int) - (r.ht : Int)) = 2) (hh : l.ht = r.ht + 2) :
    Calls Tryd.prog 89 #[.pointer (some ⟨tb, 0, none⟩), .agg #[.string k, .string v.k, .int .i64 v.c, .int .i64 v.n, .string v.v, .bool v.d, .int .i64 s.n, .int .u64 s.a, .int .u64 s.b], .pointer lp, .pointer rp] w fun e w' => ∃ p, e = .returned (.pointer p) ∧ IsTE w' p (Tr.turnR k v s l r) ∧ CntE c (n + Tr.turnRC l r) w' ∧ Keeps (OnC c) w w' := by
  have H := aside (lstE k v s ht hc)
  have HC := aside hc
  have CL := aside (fun (W : World) (h : Stay 145 w W) => levelsE (hl.on h))
  have CR := aside (fun (W : World) (h : Stay 145 w W) => levelsE (hr.on h))
  have HN := aside (turnRE HB k v s H.out.tobj H.out.cnt (hl.on H.out.stay) (hr.on H.out.stay) hw hh)
  generalize Tr.turnR k v s l r = T at *
  generalize Tr.turnRC l r = cst at *
  generalize (l.ht : Int) = hA at *
  generalize (r.ht : Int) = hB at *
  clear ht hc hl hr hw hh
  go_enter Tryd.func89, Tryd.ntmps89
  go_wp2_with fail
  refine (CL.out _ H.out.stay).mono ?_
  rintro e w1 ⟨rfl, rfl⟩
  go_wp2_with fail
  refine (CR.out _ H.out.stay).mono ?_
  rintro e w1 ⟨rfl, rfl⟩
  go_wp2_with fail
  refine HN.out.mono ?_
  rintro e w1 ⟨p, rfl, i1, bc, kk⟩
  have I1 := aside i1
  have BC := aside bc
  have KK := aside (H.out.keeps.trans kk)
  clear i1 bc kk HN CL CR H
  go_wp2
  exact bodyPost_ret (v := .pointer p) (by simp [results, Tryd.results89, go_sem]) rfl ⟨p, rfl, I1.out, BC.out, KK.out⟩
set_option maxHeartbeats 1600000 in
set_option maxRecDepth 100000 in
theorem levelBE {jv : Value} {c : Option Nat} (HB : BothOkE jv c) {w : World} {tb n : Nat} {root : Option Addr} {l r : Tr En Tl} {lp rp : Option Addr} (k : ByteArray) (v : En) (s : Tl)
    (ht : TObjE w tb jv root) (hc : CntE c n w) (hl : IsTE w lp l) (hr : IsTE w rp r) (hw : (Tr.node l k v s r).wt tSz ≤ 4611686018427387904) (hd : IntKind.i64.wrap ((l.ht : Int) - (r.ht : Int)) = -2) (hh : r.ht = l.ht + 2) :
    Calls Tryd.prog 89 #[.pointer (some ⟨tb, 0, none⟩), .agg #[.string k, .string v.k, .int .i64 v.c, .int .i64 v.n, .string v.v, .bool v.d, .int .i64 s.n, .int .u64 s.a, .int .u64 s.b], .pointer lp, .pointer rp] w fun e w' => ∃ p, e = .returned (.pointer p) ∧ IsTE w' p (Tr.turnL k v s l r) ∧ CntE c (n + Tr.turnLC l r) w' ∧ Keeps (OnC c) w w' := by
  have H := aside (lstE k v s ht hc)
  have HC := aside hc
  have CL := aside (fun (W : World) (h : Stay 145 w W) => levelsE (hl.on h))
  have CR := aside (fun (W : World) (h : Stay 145 w W) => levelsE (hr.on h))
  have HN := aside (turnLE HB k v s H.out.tobj H.out.cnt (hl.on H.out.stay) (hr.on H.out.stay) hw hh)
  generalize Tr.turnL k v s l r = T at *
  generalize Tr.turnLC l r = cst at *
  generalize (l.ht : Int) = hA at *
  generalize (r.ht : Int) = hB at *
  clear ht hc hl hr hw hh
  go_enter Tryd.func89, Tryd.ntmps89
  go_wp2_with fail
  refine (CL.out _ H.out.stay).mono ?_
  rintro e w1 ⟨rfl, rfl⟩
  go_wp2_with fail
  refine (CR.out _ H.out.stay).mono ?_
  rintro e w1 ⟨rfl, rfl⟩
  go_wp2_with fail
  refine HN.out.mono ?_
  rintro e w1 ⟨p, rfl, i1, bc, kk⟩
  have I1 := aside i1
  have BC := aside bc
  have KK := aside (H.out.keeps.trans kk)
  clear i1 bc kk HN CL CR H
  go_wp2
  exact bodyPost_ret (v := .pointer p) (by simp [results, Tryd.results89, go_sem]) rfl ⟨p, rfl, I1.out, BC.out, KK.out⟩
set_option maxHeartbeats 1600000 in
set_option maxRecDepth 100000 in
theorem levelCE {jv : Value} {c : Option Nat} (HB : BothOkE jv c) {w : World} {tb n : Nat} {root : Option Addr} {l r : Tr En Tl} {lp rp : Option Addr} (k : ByteArray) (v : En) (s : Tl)
    (ht : TObjE w tb jv root) (hc : CntE c n w) (hl : IsTE w lp l) (hr : IsTE w rp r) (hw : (Tr.node l k v s r).wt tSz ≤ 4611686018427387904) (hd : wrap64 ((l.ht : Int) - (r.ht : Int)) ≠ 2) (hd2 : wrap64 ((l.ht : Int) - (r.ht : Int)) ≠ -2) :
    Calls Tryd.prog 89 #[.pointer (some ⟨tb, 0, none⟩), .agg #[.string k, .string v.k, .int .i64 v.c, .int .i64 v.n, .string v.v, .bool v.d, .int .i64 s.n, .int .u64 s.a, .int .u64 s.b], .pointer lp, .pointer rp] w fun e w' => ∃ p, e = .returned (.pointer p) ∧ IsTE w' p (Tr.node l k v s r) ∧ CntE c (n + Tr.hangC l r) w' ∧ Keeps (OnC c) w w' := by
  have H := aside (lstE k v s ht hc)
  have HC := aside hc
  have CL := aside (fun (W : World) (h : Stay 145 w W) => levelsE (hl.on h))
  have CR := aside (fun (W : World) (h : Stay 145 w W) => levelsE (hr.on h))
  have HN := aside (hangE HB k v s H.out.tobj H.out.cnt (hl.on H.out.stay) (hr.on H.out.stay) hw)
  generalize Tr.node l k v s r = T at *
  generalize Tr.hangC l r = cst at *
  generalize (l.ht : Int) = hA at *
  generalize (r.ht : Int) = hB at *
  clear ht hc hl hr hw
  have hq1 : (wrap64 (hA - hB) == 2) = false := beq_eq_false_iff_ne.2 hd
  have hq2 : (wrap64 (hA - hB) == -2) = false := beq_eq_false_iff_ne.2 hd2
  clear hd hd2
  go_enter Tryd.func89, Tryd.ntmps89
  go_wp2_with fail
  refine (CL.out _ H.out.stay).mono ?_
  rintro e w1 ⟨rfl, rfl⟩
  go_wp2_with fail
  refine (CR.out _ H.out.stay).mono ?_
  rintro e w1 ⟨rfl, rfl⟩
  go_wp2_with fail
  refine HN.out.mono ?_
  rintro e w1 ⟨p, rfl, i1, bc, kk⟩
  have I1 := aside i1
  have BC := aside bc
  have KK := aside (H.out.keeps.trans kk)
  clear i1 bc kk HN CL CR H
  go_wp2
  exact bodyPost_ret (v := .pointer p) (by simp [results, Tryd.results89, go_sem]) rfl ⟨p, rfl, I1.out, BC.out, KK.out⟩
theorem levelE {jv : Value} {c : Option Nat} (HB : BothOkE jv c) {w : World} {tb n : Nat} {root : Option Addr} {l r : Tr En Tl} {lp rp : Option Addr} (k : ByteArray) (v : En) (s : Tl)
    (ht : TObjE w tb jv root) (hc : CntE c n w) (hl : IsTE w lp l) (hr : IsTE w rp r) (hw : (Tr.node l k v s r).wt tSz ≤ 4611686018427387904) :
    Calls Tryd.prog 89 #[.pointer (some ⟨tb, 0, none⟩), .agg #[.string k, .string v.k, .int .i64 v.c, .int .i64 v.n, .string v.v, .bool v.d, .int .i64 s.n, .int .u64 s.a, .int .u64 s.b], .pointer lp, .pointer rp] w fun e w' => ∃ p, e = .returned (.pointer p) ∧ IsTE w' p (Tr.level k v s l r) ∧ CntE c (n + Tr.levelC l r) w' ∧ Keeps (OnC c) w w' := by
  have h1 := Tr.cnt_le_wt tSz (Tr.node l k v s r)
  have h2 := Tr.ht_le_cnt l
  have h3 := Tr.ht_le_cnt r
  simp only [Tr.cnt] at h1
  have hd : IntKind.i64.wrap ((l.ht : Int) - (r.ht : Int)) = (l.ht : Int) - (r.ht : Int) := by rw [IntKind.wrap_i64]; omega
  have hd' : wrap64 ((l.ht : Int) - (r.ht : Int)) = (l.ht : Int) - (r.ht : Int) := by unfold wrap64; omega
  unfold Tr.level Tr.levelC
  by_cases g1 : l.ht = r.ht + 2
  · rw [if_pos g1, if_pos g1]
    exact levelAE HB k v s ht hc hl hr hw (by rw [hd]; omega) g1
  · rw [if_neg g1, if_neg g1]
    by_cases g2 : r.ht = l.ht + 2
    · rw [if_pos g2, if_pos g2]
      exact levelBE HB k v s ht hc hl hr hw (by rw [hd]; omega) g2
    · rw [if_neg g2, if_neg g2]
      exact levelCE HB k v s ht hc hl hr hw (by rw [hd']; omega) (by rw [hd']; omega)
end Go.Proofs.YtlbkcndmljlnmaaDoor
namespace Go.Proofs.YtlbkcndmljlnmaaDoor
open Go.RowKit
set_option linter.unusedVariables false
theorem infoPNE : (Tryd.prog.info? 139).map (fun i => (i.zero, i.size, i.bytes)) = some (some (.pointer none), 1, 8) := by kernel_rfl
/-- The pointers of a way. -/
def ptrsE (l : List (Option Addr × Tr En Tl)) : List Value := l.map (fun x => .pointer x.1)
/-- What the loop of down keeps: pre has been passed; T' is what the way goes on from; at most g rounds are to come. -/
def DRelE (w : World) (k : ByteArray) (T : Tr En Tl) (g : Nat) (above at_ lo : Value) (wr : World) : Prop :=
  ∃ (pre : List (Option Addr × Tr En Tl)) (p : Option Addr) (T' : Tr En Tl) (L b cap : Nat), above = .slice (some ⟨b, 0, none⟩) pre.length cap ∧ at_ = .pointer p ∧ lo = .int .i64 (L : Int) ∧
    IsTE w p T' ∧ T'.ht ≤ g ∧ wr.ownsRow w.heap.size 139 1 (.slice (some ⟨b, 0, none⟩) pre.length cap) pre.length (ptrsE pre) ∧ Below w.heap.size w wr ∧ (∀ x ∈ pre, IsTE w x.1 x.2) ∧
    Tr.path k T = pre.map (·.2) ++ Tr.path k T' ∧ Tr.found k T = Tr.found k T' ∧ Tr.lower k T = L + Tr.lower k T' ∧ pre.length + T'.ht ≤ T.ht ∧ L + T'.cnt ≤ T.cnt
theorem DRelE.mk0 {w w0 : World} {k : ByteArray} {T : Tr En Tl} {p : Option Addr} {cap b : Nat} (hT : IsTE w p T) (ho : w0.ownsRow w.heap.size 139 1 (.slice (some ⟨b, 0, none⟩) 0 cap) 0 []) (hb : Below w.heap.size w w0) :
    DRelE w k T T.ht (.slice (some ⟨b, 0, none⟩) 0 cap) (.pointer p) (.int .i64 0) w0 :=
  ⟨[], p, T, 0, b, cap, rfl, rfl, rfl, hT, Nat.le_refl _, ho, hb, (fun x hx => by cases hx), rfl, rfl, by omega, by simp, by omega⟩
/-- One pointer more. -/
theorem down_rowE {w wr w1 : World} {u : Value} {pre : List (Option Addr × Tr En Tl)} {b b1 cap1 : Nat} {o : Obj} {T' : Tr En Tl} (hb : Below w.heap.size w wr)
    (hown : wr.ownsRow w.heap.size 139 1 u pre.length (ptrsE pre)) (hgrow : (wr.alloc o).grownBy w1 u.ownBlock)
    (hown1 : w1.ownsRow w.heap.size 139 1 (.slice (some ⟨b1, 0, none⟩) (pre.length + 1) cap1) (pre.length + 1) (ptrsE pre ++ [.pointer (some ⟨b, 0, none⟩)])) :
    w1.ownsRow w.heap.size 139 1 (.slice (some ⟨b1, 0, none⟩) (pre ++ [((some ⟨b, 0, none⟩ : Option Addr), T')]).length cap1) (pre ++ [((some ⟨b, 0, none⟩ : Option Addr), T')]).length (ptrsE (pre ++ [((some ⟨b, 0, none⟩ : Option Addr), T')])) ∧ Below w.heap.size w w1 := by
  constructor
  · simpa [ptrsE] using hown1
  · exact (hb.alloc hb.size o).grown hgrow (by have := hb.size; simp; omega) (fun j hj => (hown.lt j hj).1)
/-- What down hands back. -/
def DownsE (w : World) (k : ByteArray) (T : Tr En Tl) (e : Ending) (w' : World) : Prop :=
  ∃ (pre : List (Option Addr × Tr En Tl)) (p : Option Addr) (b cap : Nat), e = .returned (.tuple #[.slice (some ⟨b, 0, none⟩) pre.length cap, .pointer p, .int .i64 (Tr.lower k T : Int)]) ∧
    IsTE w p (Tr.found k T) ∧ w'.ownsRow w.heap.size 139 1 (.slice (some ⟨b, 0, none⟩) pre.length cap) pre.length (ptrsE pre) ∧ Below w.heap.size w w' ∧ (∀ x ∈ pre, IsTE w x.1 x.2) ∧ pre.map (·.2) = Tr.path k T
set_option maxHeartbeats 3200000 in
set_option maxRecDepth 100000 in
theorem downE (k : ByteArray) {w : World} {tb : Nat} {jv : Value} {p0 : Option Addr} {T : Tr En Tl} (ht : TObjE w tb jv p0) (hT : IsTE w p0 T) (hh : T.ht ≤ 1000000) (hcn : T.cnt ≤ 4611686018427387904) :
    Calls Tryd.prog 82 #[.pointer (some ⟨tb, 0, none⟩), .string k] w (DownsE w k T) := by
  obtain ⟨i0, hi0, hz0, hz1, hz2⟩ := info_parts infoPNE
  have HI := aside hi0
  have HT := aside hT
  have t0 := tobjE ht
  obtain ⟨-, -, -, -, r0, -⟩ := t0
  have CL := aside (levelsE hT)
  obtain ⟨h, hh1⟩ : ∃ h : Int, (T.ht : Int) = h := ⟨_, rfl⟩
  rw [hh1] at CL
  have HH := aside hh1
  have HCN := aside hcn
  have HHT := aside hh
  have TL := aside (lt_of_blk ht)
  clear ht hT hh1 hcn hh
  go_enter Tryd.func82, Tryd.ntmps82
  go_wp2
  go_step3
  go_wp2_with fail
  refine CL.out.mono ?_
  rintro e w1 ⟨rfl, rfl⟩
  go_wp2_with (at_make; refine wpList_make_own _ rfl _ _ 138 rfl w1.heap.size 139 i0 (.pointer none) 1 Tryd.underlying138 hi0 hz0 hz1 _ _ _ T.ht rfl rfl HH.out.symm (by rw [hz2]; have := HHT.out; omega) (by have := HHT.out; unfold maxLen; omega) (Nat.le_refl _) ?_)
  intro w0 hown0 hgrow0
  have hb0 : Below w1.heap.size w1 w0 := (Below.refl _ w1).grown hgrow0 (Nat.le_refl _) (fun k e => by cases e)
  have R0 := aside (DRelE.mk0 (k := k) HT.out hown0 hb0)
  have r0' := (hb0.cell (p := ⟨tb, 4, none⟩) TL.out).trans r0
  clear hgrow0 hown0 hb0 r0
  go_wp2
  go_step3
  go_wp2
  clear r0'
  go_loopg [4, 5, 6] T.ht (fun g a at_ lo wr => DRelE w1 k T g a at_ lo wr)
  case atStart => exact R0.out
  case round =>
    obtain ⟨pre, p, T', L, b0, cap, rfl, rfl, rfl, hT', hg, ho, hb, hpre, e1, e2, e3, e4, e5⟩ := hrel
    have HO := aside ho
    have HB := aside hb
    have HP := aside hpre
    have E1 := aside e1
    have E2 := aside e2
    have E3 := aside e3
    have E4 := aside e4
    have E5 := aside e5
    have HG := aside hg
    clear ho hb hpre e1 e2 e3 e4 e5 hg R0
    cases T' with
    | nil =>
      obtain rfl : p = none := hT'
      have he : Tr.lower k T = L := by have := E3.out; simpa [Tr.lower] using this
      have HE := aside he
      clear he
      go_wp2
      go_ret3
      refine ⟨pre, none, b0, cap, by rw [HE.out]; rfl, by rw [E2.out]; rfl, HO.out, HB.out, HP.out, by rw [E1.out]; simp [Tr.path]⟩
    | node l k' v s r =>
      have HT' := aside hT'
      obtain ⟨b, lp, rp, rfl, hbk, hl, hr⟩ := hT'
      have HL := aside hl
      have HR := aside hr
      have HK := aside hbk
      have hn := nodeE (blk_on hbk HB.out)
      obtain ⟨c0, -, -, -, -, -, -, -, -, c1, c2, -, -, -, -, -⟩ := hn
      clear hbk hl hr
      have CW := aside (fun (W : World) (h : Stay 145 w1 W) => rowsE (HL.out.on h))
      obtain ⟨lc, hlc⟩ : ∃ x : Int, (l.cnt : Int) = x := ⟨_, rfl⟩
      rw [hlc] at CW
      have HLC := aside hlc
      clear hlc
      cases q1 : Op.bytesLess k.toList k'.toList
      · cases q2 : Op.bytesLess k'.toList k.toList
        · have Q1 := aside (show kLt k k' = false from q1)
          have Q2 := aside (show kLt k' k = false from q2)
          have hgt : binOp .gtr 9 (.string k) (.string k') = pure (.bool false) := str_gtr (kLt_same Q1.out Q2.out)
          have hsum : IntKind.i64.wrap ((L : Int) + lc) = ((Tr.lower k T : Nat) : Int) := by
            have h1 := E3.out
            have h2 := HLC.out
            have h3 := HCN.out
            have h4 := E5.out
            simp only [Tr.lower, Q1.out, Q2.out, Bool.false_eq_true, if_false] at h1
            simp only [Tr.cnt] at h4
            rw [IntKind.wrap_i64]
            omega
          have HS := aside hsum
          clear hsum
          obtain ⟨lo, hlo⟩ : ∃ x : Int, IntKind.i64.wrap ((L : Int) + lc) = x := ⟨_, rfl⟩
          have HS2 := aside (hlo.symm.trans HS.out)
          go_wp2_with fail
          refine (CW.out _ (fun _ _ e => blk_on e HB.out)).mono ?_
          rintro e w2 ⟨rfl, rfl⟩
          go_wp2
          go_ret3
          refine ⟨pre, some ⟨b, 0, none⟩, b0, cap, ?_, ?_, HO.out, HB.out, HP.out, ?_⟩
          · rw [← HS2.out]; rfl
          · rw [E2.out]; simp only [Tr.found, Q1.out, Q2.out, Bool.false_eq_true, if_false]; exact HT'.out
          · rw [E1.out]; simp [Tr.path, Q1.out, Q2.out]
        · have Q1 := aside (show kLt k k' = false from q1)
          have Q2 := aside (show kLt k' k = true from q2)
          have hgt : binOp .gtr 9 (.string k) (.string k') = pure (.bool true) := str_gtr (kLt_over Q2.out)
          have hlen : pre.length ≤ 1000000 := by have := E4.out; have := HHT.out; omega
          have HLEN := aside hlen
          clear hlen
          go_wp2_with (at_builtin; refine wpList_append_lies _ rfl _ _ _ rfl w1.heap.size 139 i0 (.pointer none) 1 8 Tryd.underlying138 hi0 hz0 hz1 hz2 rfl (by decide) _ _ _ (by rfl) (HO.out.alloc _) ⟨wr.heap.size, 0, none⟩ 1 1 [.pointer (some ⟨b, 0, none⟩)] (by rfl) (by rfl) (World.news_of_block (cs := #[.pointer (some ⟨b, 0, none⟩)]) (t := 139) (fr := (0, 0)) (heap_alloc_new wr _)) (by simp [Value.oneCell']) (by first | omega | skip) (by have := HLEN.out; unfold maxLen; omega) (by have := HLEN.out; omega) (by have := HB.out.size; simp; omega) (wr.heap.size + 1) (by simp) ?_; intro b1 cp w1 hown1 hgrow hat hlt1; refine Hid.out ?_)
          refine aside ?_
          obtain ⟨O1, B1⟩ := down_rowE (T' := Tr.node l k' v s r) HB.out HO.out hgrow hown1
          have HO1 := aside O1
          have HB1 := aside B1
          have hn := nodeE (blk_on HK.out B1)
          obtain ⟨d0, -, -, -, -, -, -, -, -, d1, d2, -, -, -, -, -⟩ := hn
          clear O1 B1 hgrow hown1 hat hlt1 c0 c1 c2
          go_wp2_with fail
          refine (CW.out _ (fun _ _ e => blk_on e HB1.out)).mono ?_
          rintro e w2 ⟨rfl, rfl⟩
          have hs1 : IntKind.i64.wrap (lc + 1) = lc + 1 := by
            have h2 := HLC.out
            have h3 := HCN.out
            have h4 := E5.out
            simp only [Tr.cnt] at h4
            rw [IntKind.wrap_i64]
            omega
          have hs2 : IntKind.i64.wrap ((L : Int) + (lc + 1)) = ((L + (l.cnt + 1) : Nat) : Int) := by
            have h2 := HLC.out
            have h3 := HCN.out
            have h4 := E5.out
            simp only [Tr.cnt] at h4
            rw [IntKind.wrap_i64]
            omega
          obtain ⟨lo, hlo⟩ : ∃ x : Int, IntKind.i64.wrap ((L : Int) + (lc + 1)) = x := ⟨_, rfl⟩
          have HS2 := aside (hlo.symm.trans hs2)
          clear hs2
          go_wp2
          go_roundg r.ht
          case measure => have := HG.out; simp only [Tr.ht] at this; omega
          case rel =>
            refine ⟨pre ++ [(some ⟨b, 0, none⟩, Tr.node l k' v s r)], rp, r, L + (l.cnt + 1), b1, cp, by simp, rfl, by rw [← HS2.out], HR.out, Nat.le_refl _, HO1.out, HB1.out, ?_, ?_, ?_, ?_, ?_, ?_⟩
            · intro x hx
              rcases List.mem_append.1 hx with hx | hx
              · exact HP.out x hx
              · rw [List.mem_singleton.1 hx]; exact HT'.out
            · rw [E1.out]; simp [Tr.path, Q1.out, Q2.out]
            · rw [E2.out]; simp [Tr.found, Q1.out, Q2.out]
            · rw [E3.out]; simp only [Tr.lower, Q1.out, Q2.out, Bool.false_eq_true, if_false, if_true]; omega
            · have := E4.out; simp only [Tr.ht] at this; simp; omega
            · have := E5.out; simp only [Tr.cnt] at this; omega
      · have Q1 := aside (show kLt k k' = true from q1)
        have hlen : pre.length ≤ 1000000 := by have := E4.out; have := HHT.out; omega
        have HLEN := aside hlen
        clear hlen
        go_wp2_with (at_builtin; refine wpList_append_lies _ rfl _ _ _ rfl w1.heap.size 139 i0 (.pointer none) 1 8 Tryd.underlying138 hi0 hz0 hz1 hz2 rfl (by decide) _ _ _ (by rfl) (HO.out.alloc _) ⟨wr.heap.size, 0, none⟩ 1 1 [.pointer (some ⟨b, 0, none⟩)] (by rfl) (by rfl) (World.news_of_block (cs := #[.pointer (some ⟨b, 0, none⟩)]) (t := 139) (fr := (0, 0)) (heap_alloc_new wr _)) (by simp [Value.oneCell']) (by first | omega | skip) (by have := HLEN.out; unfold maxLen; omega) (by have := HLEN.out; omega) (by have := HB.out.size; simp; omega) (wr.heap.size + 1) (by simp) ?_; intro b1 cp w1 hown1 hgrow hat hlt1; refine Hid.out ?_)
        refine aside ?_
        obtain ⟨O1, B1⟩ := down_rowE (T' := Tr.node l k' v s r) HB.out HO.out hgrow hown1
        have HO1 := aside O1
        have HB1 := aside B1
        have hn := nodeE (blk_on HK.out B1)
        obtain ⟨d0, -, -, -, -, -, -, -, -, d1, d2, -, -, -, -, -⟩ := hn
        clear O1 B1 hgrow hown1 hat hlt1 c0 c1 c2
        go_wp2
        go_roundg l.ht
        case measure => have := HG.out; simp only [Tr.ht] at this; omega
        case rel =>
          refine ⟨pre ++ [(some ⟨b, 0, none⟩, Tr.node l k' v s r)], lp, l, L, b1, cp, by simp, rfl, rfl, HL.out, Nat.le_refl _, HO1.out, HB1.out, ?_, ?_, ?_, ?_, ?_, ?_⟩
          · intro x hx
            rcases List.mem_append.1 hx with hx | hx
            · exact HP.out x hx
            · rw [List.mem_singleton.1 hx]; exact HT'.out
          · rw [E1.out]; simp [Tr.path, Q1.out]
          · rw [E2.out]; simp [Tr.found, Q1.out]
          · rw [E3.out]; simp [Tr.lower, Q1.out]
          · have := E4.out; simp only [Tr.ht] at this; simp; omega
          · have := E5.out; simp only [Tr.cnt] at this; omega
end Go.Proofs.YtlbkcndmljlnmaaDoor

/-
  hang (E), a case.
  hang (E), a case.
  hang (E), a case.
-/
import Derived.Test.YtlbkcndmljlnmaaDoorBx7
namespace Go.Proofs.YtlbkcndmljlnmaaDoor
open Go.RowKit
set_option linter.unusedVariables false
set_option maxHeartbeats 3200000 in
set_option maxRecDepth 100000 in
theorem hangE00 {jv : Value} {c : Option Nat} (HB : BothOkE jv c) {w : World} {tb n : Nat} {root : Option Addr} {l r : Tr En Tl} (k : ByteArray) (v : En) (s : Tl)
    (ht : TObjE w tb jv root) (hc : CntE c n w) (hl : IsTE w none l) (hr : IsTE w none r) (hw : (Tr.node l k v s r).wt tSz ≤ 4611686018427387904) (hnl : l.isNil = true) (hnr : r.isNil = true) :
    Calls Tryd.prog 87 #[.pointer (some ⟨tb, 0, none⟩), .agg #[.string k, .string v.k, .int .i64 v.c, .int .i64 v.n, .string v.v, .bool v.d, .int .i64 s.n, .int .u64 s.a, .int .u64 s.b], .pointer none, .pointer none] w fun e w' => ∃ p, e = .returned (.pointer p) ∧ IsTE w' p (Tr.node l k v s r) ∧ CntE c (n + Tr.hangC l r) w' ∧ Keeps (OnC c) w w' := by
  have H0 := aside (hstE k v s ht hc hl hr)
  have HC := aside hc
  have HW := aside hw
  simp only [Tr.wt] at hw
  clear ht hc hl hr hw
  go_enter Tryd.func87, Tryd.ntmps87
  go_wp2_with fail
  generalize (w.alloc (.cells #[.string k, .string v.k, .int .i64 v.c, .int .i64 v.n, .string v.v, .bool v.d, .int .i64 s.n, .int .u64 s.a, .int .u64 s.b] 143)).alloc (.cells #[.int .i64 s.n, .int .u64 s.a, .int .u64 s.b] 97) = V at *
  refine wp_region_held_drew (S := fun X => X.cell? ⟨w.heap.size, 0, none⟩ = some (.string k) ∧ X.cell? ⟨w.heap.size, 1, none⟩ = some (.string v.k) ∧ X.cell? ⟨w.heap.size, 2, none⟩ = some (.int .i64 v.c) ∧ X.cell? ⟨w.heap.size, 3, none⟩ = some (.int .i64 v.n) ∧ X.cell? ⟨w.heap.size, 4, none⟩ = some (.string v.v) ∧ X.cell? ⟨w.heap.size, 5, none⟩ = some (.bool v.d) ∧ X.cell? ⟨w.heap.size, 6, none⟩ = some (.int .i64 s.n) ∧ X.cell? ⟨w.heap.size, 7, none⟩ = some (.int .u64 s.a) ∧ X.cell? ⟨w.heap.size, 8, none⟩ = some (.int .u64 s.b) ∧ X.cell? ⟨w.heap.size + 1, 0, none⟩ = some (.int .i64 s.n) ∧ X.cell? ⟨w.heap.size + 1, 1, none⟩ = some (.int .u64 s.a) ∧ X.cell? ⟨w.heap.size + 1, 2, none⟩ = some (.int .u64 s.b) ∧ Hid (HStE w X tb n jv root c k v s s l r none none)) (by kernel_rfl) H0.out.drew.held (fun hHeld => ?_)
  refine wpAnyH_take (i := 0) (v := ?_) rfl (by kernel_rfl) (by kernel_rfl) (by kernel_rfl) (fun _ _ _ h => h) (Or.inl ⟨by rfl, ?_⟩) (by assumption) ?_
  rotate_left
  · intro w hSw
    go_simp
    try with_reducible rfl
  simp only [Act.put, List.getElem_toArray, List.getElem_cons_zero, List.setIfInBounds_toArray, List.set_cons_zero, List.set_cons_succ]
  refine wpAnyH_take (i := 1) (v := ?_) rfl (by kernel_rfl) (by kernel_rfl) (by kernel_rfl) (fun _ _ _ h => h) (Or.inl ⟨by rfl, ?_⟩) (by assumption) ?_
  rotate_left
  · intro w hSw
    go_simp
    try with_reducible rfl
  simp only [Act.put, List.getElem_toArray, List.getElem_cons_zero, List.getElem_cons_succ, List.setIfInBounds_toArray, List.set_cons_zero, List.set_cons_succ]
  refine wpAnyH_take (i := 2) (v := ?_) rfl (by kernel_rfl) (by kernel_rfl) (by kernel_rfl) (fun _ _ _ h => h) (Or.inl ⟨by rfl, ?_⟩) (by assumption) ?_
  rotate_left
  · intro w hSw
    go_simp
    try with_reducible rfl
  simp only [Act.put, List.getElem_toArray, List.getElem_cons_zero, List.getElem_cons_succ, List.setIfInBounds_toArray, List.set_cons_zero, List.set_cons_succ]
  refine wpAnyH_take (i := 3) (v := ?_) rfl (by kernel_rfl) (by kernel_rfl) (by kernel_rfl) (fun _ _ _ h => h) (Or.inl ⟨by rfl, ?_⟩) (by assumption) ?_
  rotate_left
  · intro w hSw
    go_simp
    try with_reducible rfl
  simp only [Act.put, List.getElem_toArray, List.getElem_cons_zero, List.getElem_cons_succ, List.setIfInBounds_toArray, List.set_cons_zero, List.set_cons_succ]
  refine wpAnyH_take (i := 6) (v := ?_) rfl (by kernel_rfl) (by kernel_rfl) (by kernel_rfl) (fun _ _ _ h => h) (Or.inl ⟨by rfl, ?_⟩) (by assumption) ?_
  rotate_left
  · intro w hSw
    go_simp
    try with_reducible rfl
  simp only [Act.put, List.getElem_toArray, List.getElem_cons_zero, List.getElem_cons_succ, List.setIfInBounds_toArray, List.set_cons_zero, List.set_cons_succ]
  refine wpAnyH_take (i := 9) (v := ?_) rfl (by kernel_rfl) (by kernel_rfl) (by kernel_rfl) (fun _ _ _ h => h) (Or.inl ⟨by rfl, ?_⟩) (by assumption) ?_
  rotate_left
  · intro w hSw
    go_simp
    try with_reducible rfl
  simp only [Act.put, List.getElem_toArray, List.getElem_cons_zero, List.getElem_cons_succ, List.setIfInBounds_toArray, List.set_cons_zero, List.set_cons_succ]
  refine wpAnyH_take (i := 11) (v := ?_) rfl (by kernel_rfl) (by kernel_rfl) (by kernel_rfl) (fun _ _ _ h => h) (Or.inl ⟨by rfl, ?_⟩) (by assumption) ?_
  rotate_left
  · intro w hSw
    go_simp
    try with_reducible rfl
  simp only [Act.put, List.getElem_toArray, List.getElem_cons_zero, List.getElem_cons_succ, List.setIfInBounds_toArray, List.set_cons_zero, List.set_cons_succ]
  refine wpAnyH_take (i := 15) (v := ?_) rfl (by kernel_rfl) (by kernel_rfl) (by kernel_rfl) (fun _ _ _ h => h) (Or.inl ⟨by rfl, ?_⟩) (by assumption) ?_
  rotate_left
  · intro w hSw
    go_simp
    try with_reducible rfl
  simp only [Act.put, List.getElem_toArray, List.getElem_cons_zero, List.getElem_cons_succ, List.setIfInBounds_toArray, List.set_cons_zero, List.set_cons_succ]
  refine wpAnyH_ready (rs := [4]) (by kernel_rfl) (by simp) ?_
  refine AllReadyH.cons rfl (fun K hK => ?_) AllReadyH.nil
  go_simp
  refine (rowsE hHeld.2.2.2.2.2.2.2.2.2.2.2.2.out.l).mono ?_
  rintro e w9 ⟨rfl, rfl⟩
  refine hK.out _ _ (hHeld) (fun hHeld => ?_)
  clear hK K 
  refine wpAnyH_take (i := 5) (v := ?_) rfl (by kernel_rfl) (by kernel_rfl) (by kernel_rfl) (fun _ _ _ h => h) (Or.inl ⟨by rfl, ?_⟩) (by assumption) ?_
  rotate_left
  · intro w hSw
    go_simp
    try with_reducible rfl
  simp only [Act.put, List.getElem_toArray, List.getElem_cons_zero, List.getElem_cons_succ, List.setIfInBounds_toArray, List.set_cons_zero, List.set_cons_succ]
  refine wpAnyH_ready (rs := [7]) (by kernel_rfl) (by simp) ?_
  refine AllReadyH.cons rfl (fun K hK => ?_) AllReadyH.nil
  go_simp
  refine (rowsE hHeld.2.2.2.2.2.2.2.2.2.2.2.2.out.r).mono ?_
  rintro e w9 ⟨rfl, rfl⟩
  refine hK.out _ _ (hHeld) (fun hHeld => ?_)
  clear hK K 
  refine wpAnyH_take (i := 8) (v := ?_) rfl (by kernel_rfl) (by kernel_rfl) (by kernel_rfl) (fun _ _ _ h => h) (Or.inl ⟨by rfl, ?_⟩) (by assumption) ?_
  rotate_left
  · intro w hSw
    go_simp
    try with_reducible rfl
  simp only [Act.put, List.getElem_toArray, List.getElem_cons_zero, List.getElem_cons_succ, List.setIfInBounds_toArray, List.set_cons_zero, List.set_cons_succ]
  refine wpAnyH_ready (rs := [10]) (by kernel_rfl) (by simp) ?_
  refine AllReadyH.cons rfl (fun K hK => ?_) AllReadyH.nil
  go_simp
  refine (levelsE hHeld.2.2.2.2.2.2.2.2.2.2.2.2.out.l).mono ?_
  rintro e w9 ⟨rfl, rfl⟩
  refine hK.out _ _ (hHeld) (fun hHeld => ?_)
  clear hK K 
  refine wpAnyH_ready (rs := [12]) (by kernel_rfl) (by simp) ?_
  refine AllReadyH.cons rfl (fun K hK => ?_) AllReadyH.nil
  go_simp
  refine (levelsE hHeld.2.2.2.2.2.2.2.2.2.2.2.2.out.r).mono ?_
  rintro e w9 ⟨rfl, rfl⟩
  refine hK.out _ _ (hHeld) (fun hHeld => ?_)
  clear hK K 
  refine wpAnyH_take (i := 13) (v := ?_) rfl (by kernel_rfl) (by kernel_rfl) (by kernel_rfl) (fun _ _ _ h => h) (Or.inl ⟨by rfl, ?_⟩) (by assumption) ?_
  rotate_left
  · intro w hSw
    go_simp
    try with_reducible rfl
  simp only [Act.put, List.getElem_toArray, List.getElem_cons_zero, List.getElem_cons_succ, List.setIfInBounds_toArray, List.set_cons_zero, List.set_cons_succ]
  generalize hm : (if l.ht < r.ht then (r.ht : Int) else (l.ht : Int)) = mh
  have HM := aside hm
  clear hm
  refine wpAnyH_take (i := 14) (v := ?_) rfl (by kernel_rfl) (by kernel_rfl) (by kernel_rfl) (fun _ _ _ h => h) (Or.inl ⟨by rfl, ?_⟩) (by assumption) ?_
  rotate_left
  · intro w hSw
    go_simp
    try with_reducible rfl
  simp only [Act.put, List.getElem_toArray, List.getElem_cons_zero, List.getElem_cons_succ, List.setIfInBounds_toArray, List.set_cons_zero, List.set_cons_succ]
  refine wpAnyH_take (i := 16) (v := ?_) rfl (by kernel_rfl) (by kernel_rfl) (by kernel_rfl) (fun _ _ _ h => h) (Or.inl ⟨by rfl, ?_⟩) (by assumption) ?_
  rotate_left
  · intro w hSw
    go_simp
    try with_reducible rfl
  simp only [Act.put, List.getElem_toArray, List.getElem_cons_zero, List.getElem_cons_succ, List.setIfInBounds_toArray, List.set_cons_zero, List.set_cons_succ]
  refine wpAnyH_ready (rs := [17]) (by kernel_rfl) (by simp) ?_
  refine AllReadyH.cons rfl (fun K hK => ?_) AllReadyH.nil
  go_simp
  refine hK.out _ _ ((hHeld.2.2.2.2.2.2.2.2.2.2.2.2.out.alloc _).held) (fun hHeld => ?_)
  clear hK K 
  refine wpAnyH_take (i := 18) (v := ?_) rfl (by kernel_rfl) (by kernel_rfl) (by kernel_rfl) (fun _ _ _ h => h) (Or.inl ⟨by rfl, ?_⟩) (by assumption) ?_
  rotate_left
  · intro w hSw
    go_simp
    try with_reducible rfl
  simp only [Act.put, List.getElem_toArray, List.getElem_cons_zero, List.getElem_cons_succ, List.setIfInBounds_toArray, List.set_cons_zero, List.set_cons_succ]
  refine wpAnyH_done (by kernel_rfl) ?_ _
  go_wp2
  refine bodyPost_ret (v := .pointer (some ⟨V.heap.size, 0, none⟩)) (by simp [results, Tryd.results87, go_sem]) rfl ?_
  exact hangDoneE (n0 := n) HM.out H0.out (by simp [Tr.sum, hnl, hnr]) (by simp [Tr.hangC, hnl, hnr]) HW.out
end Go.Proofs.YtlbkcndmljlnmaaDoor
namespace Go.Proofs.YtlbkcndmljlnmaaDoor
open Go.RowKit
set_option linter.unusedVariables false
set_option maxHeartbeats 3200000 in
set_option maxRecDepth 100000 in
theorem hangE01 {jv : Value} {c : Option Nat} (HB : BothOkE jv c) {w : World} {tb n : Nat} {root : Option Addr} {l r : Tr En Tl} {br : Nat} (k : ByteArray) (v : En) (s : Tl)
    (ht : TObjE w tb jv root) (hc : CntE c n w) (hl : IsTE w none l) (hr : IsTE w (some ⟨br, 0, none⟩) r) (hw : (Tr.node l k v s r).wt tSz ≤ 4611686018427387904) (hnl : l.isNil = true) (hnr : r.isNil = false) :
    Calls Tryd.prog 87 #[.pointer (some ⟨tb, 0, none⟩), .agg #[.string k, .string v.k, .int .i64 v.c, .int .i64 v.n, .string v.v, .bool v.d, .int .i64 s.n, .int .u64 s.a, .int .u64 s.b], .pointer none, .pointer (some ⟨br, 0, none⟩)] w fun e w' => ∃ p, e = .returned (.pointer p) ∧ IsTE w' p (Tr.node l k v s r) ∧ CntE c (n + Tr.hangC l r) w' ∧ Keeps (OnC c) w w' := by
  have H0 := aside (hstE k v s ht hc hl hr)
  have HC := aside hc
  have HW := aside hw
  simp only [Tr.wt] at hw
  have hsr := Tr.sum_le tSz_le tZero r hnr
  have hler : tSz s + tSz (r.sum tJoin tZero) ≤ 4611686018427387904 := by omega
  clear ht hc hl hr hw hsr
  go_enter Tryd.func87, Tryd.ntmps87
  go_wp2_with fail
  generalize (w.alloc (.cells #[.string k, .string v.k, .int .i64 v.c, .int .i64 v.n, .string v.v, .bool v.d, .int .i64 s.n, .int .u64 s.a, .int .u64 s.b] 143)).alloc (.cells #[.int .i64 s.n, .int .u64 s.a, .int .u64 s.b] 97) = V at *
  refine wp_region_held_drew (S := fun X => X.cell? ⟨br, 13, none⟩ = some (.int .i64 (r.sum tJoin tZero).n) ∧ X.cell? ⟨br, 14, none⟩ = some (.int .u64 (r.sum tJoin tZero).a) ∧ X.cell? ⟨br, 15, none⟩ = some (.int .u64 (r.sum tJoin tZero).b)) (by kernel_rfl) (sumAtE H0.out.drew.r) (fun hHeld => ?_)
  refine wpAnyH_take (i := 0) (v := ?_) rfl (by kernel_rfl) (by kernel_rfl) (by kernel_rfl) (fun _ _ _ h => h) (Or.inl ⟨by rfl, ?_⟩) (by assumption) ?_
  rotate_left
  · intro w hSw
    go_simp
    try with_reducible rfl
  simp only [Act.put, List.getElem_toArray, List.getElem_cons_zero, List.setIfInBounds_toArray, List.set_cons_zero, List.set_cons_succ]
  refine wpAnyH_take (i := 2) (v := ?_) rfl (by kernel_rfl) (by kernel_rfl) (by kernel_rfl) (fun _ _ _ h => h) (Or.inl ⟨by rfl, ?_⟩) (by assumption) ?_
  rotate_left
  · intro w hSw
    go_simp
    try with_reducible rfl
  simp only [Act.put, List.getElem_toArray, List.getElem_cons_zero, List.getElem_cons_succ, List.setIfInBounds_toArray, List.set_cons_zero, List.set_cons_succ]
  refine wpAnyH_take (i := 3) (v := ?_) rfl (by kernel_rfl) (by kernel_rfl) (by kernel_rfl) (fun _ _ _ h => h) (Or.inl ⟨by rfl, ?_⟩) (by assumption) ?_
  rotate_left
  · intro w hSw
    go_simp
    try with_reducible rfl
  simp only [Act.put, List.getElem_toArray, List.getElem_cons_zero, List.getElem_cons_succ, List.setIfInBounds_toArray, List.set_cons_zero, List.set_cons_succ]
  refine wpAnyH_take (i := 4) (v := ?_) rfl (by kernel_rfl) (by kernel_rfl) (by kernel_rfl) (fun _ _ _ h => h) (Or.inl ⟨by rfl, ?_⟩) (by assumption) ?_
  rotate_left
  · intro w hSw
    go_simp
    try with_reducible rfl
  simp only [Act.put, List.getElem_toArray, List.getElem_cons_zero, List.getElem_cons_succ, List.setIfInBounds_toArray, List.set_cons_zero, List.set_cons_succ]
  refine wpAnyH_take (i := 5) (v := ?_) rfl (by kernel_rfl) (by kernel_rfl) (by kernel_rfl) (fun _ _ _ h => h) (Or.inl ⟨by rfl, ?_⟩) (by assumption) ?_
  rotate_left
  · intro w hSw
    go_simp
    try with_reducible rfl
  simp only [Act.put, List.getElem_toArray, List.getElem_cons_zero, List.getElem_cons_succ, List.setIfInBounds_toArray, List.set_cons_zero, List.set_cons_succ]
  obtain ⟨s0, s1, s2, z0, z1, z2⟩ := tri H0.out.drew.sm
  refine wpAnyH_ready (rs := [1]) (by kernel_rfl) (by simp) ?_
  refine AllReadyH.cons rfl (fun K hK => ?_) AllReadyH.nil
  go_simp
  refine hK.out _ _ (hHeld) (fun hHeld => ?_)
  clear hK K 
  clear s0 s1 s2 z0 z1 z2
  refine wpAnyH_ready (rs := [6]) (by kernel_rfl) (by simp) ?_
  refine AllReadyH.cons rfl (fun K hK => ?_) AllReadyH.nil
  go_simp
  refine (HB _ tb n root s (r.sum tJoin tZero) H0.out.drew.tobj H0.out.drew.cnt hler).mono ?_
  rintro e w9 ⟨rfl, bc, kk⟩
  refine hK.out _ _ (sumAtE (H0.out.drew.on HC.out kk bc).r) (fun hHeld => ?_)
  clear hK K 
  have H0ra := aside (H0.out.drew.on HC.out kk bc)
  obtain ⟨s0, s1, s2, z0, z1, z2⟩ := tri H0ra.out.sm
  clear bc kk H0
  refine wpAnyH_ready (rs := [7]) (by kernel_rfl) (by simp) ?_
  refine AllReadyH.cons rfl (fun K hK => ?_) AllReadyH.nil
  go_simp
  refine hK.out _ _ (sumAtE (H0ra.out.set HC.out (tJoin s (r.sum tJoin tZero))).r) (fun hHeld => ?_)
  clear hK K 
  have H0r := aside (H0ra.out.set HC.out (tJoin s (r.sum tJoin tZero)))
  clear hHeld s0 s1 s2 z0 z1 z2 H0ra
  refine wpAnyH_done (by kernel_rfl) ?_ _
  unfold set3 at H0r
  generalize ((w9.setCell ⟨w.heap.size + 1, 0, none⟩ (.int .i64 (tJoin s (r.sum tJoin tZero)).n)).setCell ⟨w.heap.size + 1, 1, none⟩ (.int .u64 (tJoin s (r.sum tJoin tZero)).a)).setCell ⟨w.heap.size + 1, 2, none⟩ (.int .u64 (tJoin s (r.sum tJoin tZero)).b) = Vr at *
  go_wp2_with fail
  refine wp_region_held_drew (S := fun X => X.cell? ⟨w.heap.size, 0, none⟩ = some (.string k) ∧ X.cell? ⟨w.heap.size, 1, none⟩ = some (.string v.k) ∧ X.cell? ⟨w.heap.size, 2, none⟩ = some (.int .i64 v.c) ∧ X.cell? ⟨w.heap.size, 3, none⟩ = some (.int .i64 v.n) ∧ X.cell? ⟨w.heap.size, 4, none⟩ = some (.string v.v) ∧ X.cell? ⟨w.heap.size, 5, none⟩ = some (.bool v.d) ∧ X.cell? ⟨w.heap.size, 6, none⟩ = some (.int .i64 s.n) ∧ X.cell? ⟨w.heap.size, 7, none⟩ = some (.int .u64 s.a) ∧ X.cell? ⟨w.heap.size, 8, none⟩ = some (.int .u64 s.b) ∧ X.cell? ⟨w.heap.size + 1, 0, none⟩ = some (.int .i64 (tJoin s (r.sum tJoin tZero)).n) ∧ X.cell? ⟨w.heap.size + 1, 1, none⟩ = some (.int .u64 (tJoin s (r.sum tJoin tZero)).a) ∧ X.cell? ⟨w.heap.size + 1, 2, none⟩ = some (.int .u64 (tJoin s (r.sum tJoin tZero)).b) ∧ Hid (HStE w X tb (n + 1) jv root c k v s (tJoin s (r.sum tJoin tZero)) l r none (some ⟨br, 0, none⟩))) (by kernel_rfl) H0r.out.drew.held (fun hHeld => ?_)
  refine wpAnyH_take (i := 0) (v := ?_) rfl (by kernel_rfl) (by kernel_rfl) (by kernel_rfl) (fun _ _ _ h => h) (Or.inl ⟨by rfl, ?_⟩) (by assumption) ?_
  rotate_left
  · intro w hSw
    go_simp
    try with_reducible rfl
  simp only [Act.put, List.getElem_toArray, List.getElem_cons_zero, List.setIfInBounds_toArray, List.set_cons_zero, List.set_cons_succ]
  refine wpAnyH_take (i := 1) (v := ?_) rfl (by kernel_rfl) (by kernel_rfl) (by kernel_rfl) (fun _ _ _ h => h) (Or.inl ⟨by rfl, ?_⟩) (by assumption) ?_
  rotate_left
  · intro w hSw
    go_simp
    try with_reducible rfl
  simp only [Act.put, List.getElem_toArray, List.getElem_cons_zero, List.getElem_cons_succ, List.setIfInBounds_toArray, List.set_cons_zero, List.set_cons_succ]
  refine wpAnyH_take (i := 2) (v := ?_) rfl (by kernel_rfl) (by kernel_rfl) (by kernel_rfl) (fun _ _ _ h => h) (Or.inl ⟨by rfl, ?_⟩) (by assumption) ?_
  rotate_left
  · intro w hSw
    go_simp
    try with_reducible rfl
  simp only [Act.put, List.getElem_toArray, List.getElem_cons_zero, List.getElem_cons_succ, List.setIfInBounds_toArray, List.set_cons_zero, List.set_cons_succ]
  refine wpAnyH_take (i := 3) (v := ?_) rfl (by kernel_rfl) (by kernel_rfl) (by kernel_rfl) (fun _ _ _ h => h) (Or.inl ⟨by rfl, ?_⟩) (by assumption) ?_
  rotate_left
  · intro w hSw
    go_simp
    try with_reducible rfl
  simp only [Act.put, List.getElem_toArray, List.getElem_cons_zero, List.getElem_cons_succ, List.setIfInBounds_toArray, List.set_cons_zero, List.set_cons_succ]
  refine wpAnyH_take (i := 6) (v := ?_) rfl (by kernel_rfl) (by kernel_rfl) (by kernel_rfl) (fun _ _ _ h => h) (Or.inl ⟨by rfl, ?_⟩) (by assumption) ?_
  rotate_left
  · intro w hSw
    go_simp
    try with_reducible rfl
  simp only [Act.put, List.getElem_toArray, List.getElem_cons_zero, List.getElem_cons_succ, List.setIfInBounds_toArray, List.set_cons_zero, List.set_cons_succ]
  refine wpAnyH_take (i := 9) (v := ?_) rfl (by kernel_rfl) (by kernel_rfl) (by kernel_rfl) (fun _ _ _ h => h) (Or.inl ⟨by rfl, ?_⟩) (by assumption) ?_
  rotate_left
  · intro w hSw
    go_simp
    try with_reducible rfl
  simp only [Act.put, List.getElem_toArray, List.getElem_cons_zero, List.getElem_cons_succ, List.setIfInBounds_toArray, List.set_cons_zero, List.set_cons_succ]
  refine wpAnyH_take (i := 11) (v := ?_) rfl (by kernel_rfl) (by kernel_rfl) (by kernel_rfl) (fun _ _ _ h => h) (Or.inl ⟨by rfl, ?_⟩) (by assumption) ?_
  rotate_left
  · intro w hSw
    go_simp
    try with_reducible rfl
  simp only [Act.put, List.getElem_toArray, List.getElem_cons_zero, List.getElem_cons_succ, List.setIfInBounds_toArray, List.set_cons_zero, List.set_cons_succ]
  refine wpAnyH_take (i := 15) (v := ?_) rfl (by kernel_rfl) (by kernel_rfl) (by kernel_rfl) (fun _ _ _ h => h) (Or.inl ⟨by rfl, ?_⟩) (by assumption) ?_
  rotate_left
  · intro w hSw
    go_simp
    try with_reducible rfl
  simp only [Act.put, List.getElem_toArray, List.getElem_cons_zero, List.getElem_cons_succ, List.setIfInBounds_toArray, List.set_cons_zero, List.set_cons_succ]
  refine wpAnyH_ready (rs := [4]) (by kernel_rfl) (by simp) ?_
  refine AllReadyH.cons rfl (fun K hK => ?_) AllReadyH.nil
  go_simp
  refine (rowsE hHeld.2.2.2.2.2.2.2.2.2.2.2.2.out.l).mono ?_
  rintro e w9 ⟨rfl, rfl⟩
  refine hK.out _ _ (hHeld) (fun hHeld => ?_)
  clear hK K 
  refine wpAnyH_take (i := 5) (v := ?_) rfl (by kernel_rfl) (by kernel_rfl) (by kernel_rfl) (fun _ _ _ h => h) (Or.inl ⟨by rfl, ?_⟩) (by assumption) ?_
  rotate_left
  · intro w hSw
    go_simp
    try with_reducible rfl
  simp only [Act.put, List.getElem_toArray, List.getElem_cons_zero, List.getElem_cons_succ, List.setIfInBounds_toArray, List.set_cons_zero, List.set_cons_succ]
  refine wpAnyH_ready (rs := [7]) (by kernel_rfl) (by simp) ?_
  refine AllReadyH.cons rfl (fun K hK => ?_) AllReadyH.nil
  go_simp
  refine (rowsE hHeld.2.2.2.2.2.2.2.2.2.2.2.2.out.r).mono ?_
  rintro e w9 ⟨rfl, rfl⟩
  refine hK.out _ _ (hHeld) (fun hHeld => ?_)
  clear hK K 
  refine wpAnyH_take (i := 8) (v := ?_) rfl (by kernel_rfl) (by kernel_rfl) (by kernel_rfl) (fun _ _ _ h => h) (Or.inl ⟨by rfl, ?_⟩) (by assumption) ?_
  rotate_left
  · intro w hSw
    go_simp
    try with_reducible rfl
  simp only [Act.put, List.getElem_toArray, List.getElem_cons_zero, List.getElem_cons_succ, List.setIfInBounds_toArray, List.set_cons_zero, List.set_cons_succ]
  refine wpAnyH_ready (rs := [10]) (by kernel_rfl) (by simp) ?_
  refine AllReadyH.cons rfl (fun K hK => ?_) AllReadyH.nil
  go_simp
  refine (levelsE hHeld.2.2.2.2.2.2.2.2.2.2.2.2.out.l).mono ?_
  rintro e w9 ⟨rfl, rfl⟩
  refine hK.out _ _ (hHeld) (fun hHeld => ?_)
  clear hK K 
  refine wpAnyH_ready (rs := [12]) (by kernel_rfl) (by simp) ?_
  refine AllReadyH.cons rfl (fun K hK => ?_) AllReadyH.nil
  go_simp
  refine (levelsE hHeld.2.2.2.2.2.2.2.2.2.2.2.2.out.r).mono ?_
  rintro e w9 ⟨rfl, rfl⟩
  refine hK.out _ _ (hHeld) (fun hHeld => ?_)
  clear hK K 
  refine wpAnyH_take (i := 13) (v := ?_) rfl (by kernel_rfl) (by kernel_rfl) (by kernel_rfl) (fun _ _ _ h => h) (Or.inl ⟨by rfl, ?_⟩) (by assumption) ?_
  rotate_left
  · intro w hSw
    go_simp
    try with_reducible rfl
  simp only [Act.put, List.getElem_toArray, List.getElem_cons_zero, List.getElem_cons_succ, List.setIfInBounds_toArray, List.set_cons_zero, List.set_cons_succ]
  generalize hm : (if l.ht < r.ht then (r.ht : Int) else (l.ht : Int)) = mh
  have HM := aside hm
  clear hm
  refine wpAnyH_take (i := 14) (v := ?_) rfl (by kernel_rfl) (by kernel_rfl) (by kernel_rfl) (fun _ _ _ h => h) (Or.inl ⟨by rfl, ?_⟩) (by assumption) ?_
  rotate_left
  · intro w hSw
    go_simp
    try with_reducible rfl
  simp only [Act.put, List.getElem_toArray, List.getElem_cons_zero, List.getElem_cons_succ, List.setIfInBounds_toArray, List.set_cons_zero, List.set_cons_succ]
  refine wpAnyH_take (i := 16) (v := ?_) rfl (by kernel_rfl) (by kernel_rfl) (by kernel_rfl) (fun _ _ _ h => h) (Or.inl ⟨by rfl, ?_⟩) (by assumption) ?_
  rotate_left
  · intro w hSw
    go_simp
    try with_reducible rfl
  simp only [Act.put, List.getElem_toArray, List.getElem_cons_zero, List.getElem_cons_succ, List.setIfInBounds_toArray, List.set_cons_zero, List.set_cons_succ]
  refine wpAnyH_ready (rs := [17]) (by kernel_rfl) (by simp) ?_
  refine AllReadyH.cons rfl (fun K hK => ?_) AllReadyH.nil
  go_simp
  refine hK.out _ _ ((hHeld.2.2.2.2.2.2.2.2.2.2.2.2.out.alloc _).held) (fun hHeld => ?_)
  clear hK K 
  refine wpAnyH_take (i := 18) (v := ?_) rfl (by kernel_rfl) (by kernel_rfl) (by kernel_rfl) (fun _ _ _ h => h) (Or.inl ⟨by rfl, ?_⟩) (by assumption) ?_
  rotate_left
  · intro w hSw
    go_simp
    try with_reducible rfl
  simp only [Act.put, List.getElem_toArray, List.getElem_cons_zero, List.getElem_cons_succ, List.setIfInBounds_toArray, List.set_cons_zero, List.set_cons_succ]
  refine wpAnyH_done (by kernel_rfl) ?_ _
  go_wp2
  refine bodyPost_ret (v := .pointer (some ⟨Vr.heap.size, 0, none⟩)) (by simp [results, Tryd.results87, go_sem]) rfl ?_
  exact hangDoneE (n0 := n) HM.out H0r.out (by simp [Tr.sum, hnl, hnr]) (by simp [Tr.hangC, hnl, hnr]) HW.out
end Go.Proofs.YtlbkcndmljlnmaaDoor
namespace Go.Proofs.YtlbkcndmljlnmaaDoor
open Go.RowKit
set_option linter.unusedVariables false
set_option maxHeartbeats 3200000 in
set_option maxRecDepth 100000 in
theorem hangE10 {jv : Value} {c : Option Nat} (HB : BothOkE jv c) {w : World} {tb n : Nat} {root : Option Addr} {l r : Tr En Tl} {bl : Nat} (k : ByteArray) (v : En) (s : Tl)
    (ht : TObjE w tb jv root) (hc : CntE c n w) (hl : IsTE w (some ⟨bl, 0, none⟩) l) (hr : IsTE w none r) (hw : (Tr.node l k v s r).wt tSz ≤ 4611686018427387904) (hnl : l.isNil = false) (hnr : r.isNil = true) :
    Calls Tryd.prog 87 #[.pointer (some ⟨tb, 0, none⟩), .agg #[.string k, .string v.k, .int .i64 v.c, .int .i64 v.n, .string v.v, .bool v.d, .int .i64 s.n, .int .u64 s.a, .int .u64 s.b], .pointer (some ⟨bl, 0, none⟩), .pointer none] w fun e w' => ∃ p, e = .returned (.pointer p) ∧ IsTE w' p (Tr.node l k v s r) ∧ CntE c (n + Tr.hangC l r) w' ∧ Keeps (OnC c) w w' := by
  have H0 := aside (hstE k v s ht hc hl hr)
  have HC := aside hc
  have HW := aside hw
  simp only [Tr.wt] at hw
  have hsl := Tr.sum_le tSz_le tZero l hnl
  have hlel : tSz (l.sum tJoin tZero) + tSz s ≤ 4611686018427387904 := by omega
  clear ht hc hl hr hw hsl
  go_enter Tryd.func87, Tryd.ntmps87
  go_wp2_with fail
  generalize (w.alloc (.cells #[.string k, .string v.k, .int .i64 v.c, .int .i64 v.n, .string v.v, .bool v.d, .int .i64 s.n, .int .u64 s.a, .int .u64 s.b] 143)).alloc (.cells #[.int .i64 s.n, .int .u64 s.a, .int .u64 s.b] 97) = V at *
  refine wp_region_held_drew (S := fun X => X.cell? ⟨bl, 13, none⟩ = some (.int .i64 (l.sum tJoin tZero).n) ∧ X.cell? ⟨bl, 14, none⟩ = some (.int .u64 (l.sum tJoin tZero).a) ∧ X.cell? ⟨bl, 15, none⟩ = some (.int .u64 (l.sum tJoin tZero).b)) (by kernel_rfl) (sumAtE H0.out.drew.l) (fun hHeld => ?_)
  refine wpAnyH_take (i := 0) (v := ?_) rfl (by kernel_rfl) (by kernel_rfl) (by kernel_rfl) (fun _ _ _ h => h) (Or.inl ⟨by rfl, ?_⟩) (by assumption) ?_
  rotate_left
  · intro w hSw
    go_simp
    try with_reducible rfl
  simp only [Act.put, List.getElem_toArray, List.getElem_cons_zero, List.setIfInBounds_toArray, List.set_cons_zero, List.set_cons_succ]
  refine wpAnyH_take (i := 1) (v := ?_) rfl (by kernel_rfl) (by kernel_rfl) (by kernel_rfl) (fun _ _ _ h => h) (Or.inl ⟨by rfl, ?_⟩) (by assumption) ?_
  rotate_left
  · intro w hSw
    go_simp
    try with_reducible rfl
  simp only [Act.put, List.getElem_toArray, List.getElem_cons_zero, List.getElem_cons_succ, List.setIfInBounds_toArray, List.set_cons_zero, List.set_cons_succ]
  refine wpAnyH_take (i := 2) (v := ?_) rfl (by kernel_rfl) (by kernel_rfl) (by kernel_rfl) (fun _ _ _ h => h) (Or.inl ⟨by rfl, ?_⟩) (by assumption) ?_
  rotate_left
  · intro w hSw
    go_simp
    try with_reducible rfl
  simp only [Act.put, List.getElem_toArray, List.getElem_cons_zero, List.getElem_cons_succ, List.setIfInBounds_toArray, List.set_cons_zero, List.set_cons_succ]
  refine wpAnyH_take (i := 3) (v := ?_) rfl (by kernel_rfl) (by kernel_rfl) (by kernel_rfl) (fun _ _ _ h => h) (Or.inl ⟨by rfl, ?_⟩) (by assumption) ?_
  rotate_left
  · intro w hSw
    go_simp
    try with_reducible rfl
  simp only [Act.put, List.getElem_toArray, List.getElem_cons_zero, List.getElem_cons_succ, List.setIfInBounds_toArray, List.set_cons_zero, List.set_cons_succ]
  refine wpAnyH_take (i := 4) (v := ?_) rfl (by kernel_rfl) (by kernel_rfl) (by kernel_rfl) (fun _ _ _ h => h) (Or.inl ⟨by rfl, ?_⟩) (by assumption) ?_
  rotate_left
  · intro w hSw
    go_simp
    try with_reducible rfl
  simp only [Act.put, List.getElem_toArray, List.getElem_cons_zero, List.getElem_cons_succ, List.setIfInBounds_toArray, List.set_cons_zero, List.set_cons_succ]
  obtain ⟨s0, s1, s2, z0, z1, z2⟩ := tri H0.out.drew.sm
  refine wpAnyH_ready (rs := [5]) (by kernel_rfl) (by simp) ?_
  refine AllReadyH.cons rfl (fun K hK => ?_) AllReadyH.nil
  go_simp
  refine hK.out _ _ (hHeld) (fun hHeld => ?_)
  clear hK K 
  clear s0 s1 s2 z0 z1 z2
  refine wpAnyH_ready (rs := [6]) (by kernel_rfl) (by simp) ?_
  refine AllReadyH.cons rfl (fun K hK => ?_) AllReadyH.nil
  go_simp
  refine (HB _ tb n root (l.sum tJoin tZero) s H0.out.drew.tobj H0.out.drew.cnt hlel).mono ?_
  rintro e w9 ⟨rfl, bc, kk⟩
  refine hK.out _ _ (sumAtE (H0.out.drew.on HC.out kk bc).l) (fun hHeld => ?_)
  clear hK K 
  have H0la := aside (H0.out.drew.on HC.out kk bc)
  obtain ⟨s0, s1, s2, z0, z1, z2⟩ := tri H0la.out.sm
  clear bc kk H0
  refine wpAnyH_ready (rs := [7]) (by kernel_rfl) (by simp) ?_
  refine AllReadyH.cons rfl (fun K hK => ?_) AllReadyH.nil
  go_simp
  refine hK.out _ _ (sumAtE (H0la.out.set HC.out (tJoin (l.sum tJoin tZero) s)).l) (fun hHeld => ?_)
  clear hK K 
  have H0l := aside (H0la.out.set HC.out (tJoin (l.sum tJoin tZero) s))
  clear hHeld s0 s1 s2 z0 z1 z2 H0la
  refine wpAnyH_done (by kernel_rfl) ?_ _
  unfold set3 at H0l
  generalize ((w9.setCell ⟨w.heap.size + 1, 0, none⟩ (.int .i64 (tJoin (l.sum tJoin tZero) s).n)).setCell ⟨w.heap.size + 1, 1, none⟩ (.int .u64 (tJoin (l.sum tJoin tZero) s).a)).setCell ⟨w.heap.size + 1, 2, none⟩ (.int .u64 (tJoin (l.sum tJoin tZero) s).b) = Vl at *
  go_wp2_with fail
  refine wp_region_held_drew (S := fun X => X.cell? ⟨w.heap.size, 0, none⟩ = some (.string k) ∧ X.cell? ⟨w.heap.size, 1, none⟩ = some (.string v.k) ∧ X.cell? ⟨w.heap.size, 2, none⟩ = some (.int .i64 v.c) ∧ X.cell? ⟨w.heap.size, 3, none⟩ = some (.int .i64 v.n) ∧ X.cell? ⟨w.heap.size, 4, none⟩ = some (.string v.v) ∧ X.cell? ⟨w.heap.size, 5, none⟩ = some (.bool v.d) ∧ X.cell? ⟨w.heap.size, 6, none⟩ = some (.int .i64 s.n) ∧ X.cell? ⟨w.heap.size, 7, none⟩ = some (.int .u64 s.a) ∧ X.cell? ⟨w.heap.size, 8, none⟩ = some (.int .u64 s.b) ∧ X.cell? ⟨w.heap.size + 1, 0, none⟩ = some (.int .i64 (tJoin (l.sum tJoin tZero) s).n) ∧ X.cell? ⟨w.heap.size + 1, 1, none⟩ = some (.int .u64 (tJoin (l.sum tJoin tZero) s).a) ∧ X.cell? ⟨w.heap.size + 1, 2, none⟩ = some (.int .u64 (tJoin (l.sum tJoin tZero) s).b) ∧ Hid (HStE w X tb (n + 1) jv root c k v s (tJoin (l.sum tJoin tZero) s) l r (some ⟨bl, 0, none⟩) none)) (by kernel_rfl) H0l.out.drew.held (fun hHeld => ?_)
  refine wpAnyH_take (i := 0) (v := ?_) rfl (by kernel_rfl) (by kernel_rfl) (by kernel_rfl) (fun _ _ _ h => h) (Or.inl ⟨by rfl, ?_⟩) (by assumption) ?_
  rotate_left
  · intro w hSw
    go_simp
    try with_reducible rfl
  simp only [Act.put, List.getElem_toArray, List.getElem_cons_zero, List.setIfInBounds_toArray, List.set_cons_zero, List.set_cons_succ]
  refine wpAnyH_take (i := 1) (v := ?_) rfl (by kernel_rfl) (by kernel_rfl) (by kernel_rfl) (fun _ _ _ h => h) (Or.inl ⟨by rfl, ?_⟩) (by assumption) ?_
  rotate_left
  · intro w hSw
    go_simp
    try with_reducible rfl
  simp only [Act.put, List.getElem_toArray, List.getElem_cons_zero, List.getElem_cons_succ, List.setIfInBounds_toArray, List.set_cons_zero, List.set_cons_succ]
  refine wpAnyH_take (i := 2) (v := ?_) rfl (by kernel_rfl) (by kernel_rfl) (by kernel_rfl) (fun _ _ _ h => h) (Or.inl ⟨by rfl, ?_⟩) (by assumption) ?_
  rotate_left
  · intro w hSw
    go_simp
    try with_reducible rfl
  simp only [Act.put, List.getElem_toArray, List.getElem_cons_zero, List.getElem_cons_succ, List.setIfInBounds_toArray, List.set_cons_zero, List.set_cons_succ]
  refine wpAnyH_take (i := 3) (v := ?_) rfl (by kernel_rfl) (by kernel_rfl) (by kernel_rfl) (fun _ _ _ h => h) (Or.inl ⟨by rfl, ?_⟩) (by assumption) ?_
  rotate_left
  · intro w hSw
    go_simp
    try with_reducible rfl
  simp only [Act.put, List.getElem_toArray, List.getElem_cons_zero, List.getElem_cons_succ, List.setIfInBounds_toArray, List.set_cons_zero, List.set_cons_succ]
  refine wpAnyH_take (i := 6) (v := ?_) rfl (by kernel_rfl) (by kernel_rfl) (by kernel_rfl) (fun _ _ _ h => h) (Or.inl ⟨by rfl, ?_⟩) (by assumption) ?_
  rotate_left
  · intro w hSw
    go_simp
    try with_reducible rfl
  simp only [Act.put, List.getElem_toArray, List.getElem_cons_zero, List.getElem_cons_succ, List.setIfInBounds_toArray, List.set_cons_zero, List.set_cons_succ]
  refine wpAnyH_take (i := 9) (v := ?_) rfl (by kernel_rfl) (by kernel_rfl) (by kernel_rfl) (fun _ _ _ h => h) (Or.inl ⟨by rfl, ?_⟩) (by assumption) ?_
  rotate_left
  · intro w hSw
    go_simp
    try with_reducible rfl
  simp only [Act.put, List.getElem_toArray, List.getElem_cons_zero, List.getElem_cons_succ, List.setIfInBounds_toArray, List.set_cons_zero, List.set_cons_succ]
  refine wpAnyH_take (i := 11) (v := ?_) rfl (by kernel_rfl) (by kernel_rfl) (by kernel_rfl) (fun _ _ _ h => h) (Or.inl ⟨by rfl, ?_⟩) (by assumption) ?_
  rotate_left
  · intro w hSw
    go_simp
    try with_reducible rfl
  simp only [Act.put, List.getElem_toArray, List.getElem_cons_zero, List.getElem_cons_succ, List.setIfInBounds_toArray, List.set_cons_zero, List.set_cons_succ]
  refine wpAnyH_take (i := 15) (v := ?_) rfl (by kernel_rfl) (by kernel_rfl) (by kernel_rfl) (fun _ _ _ h => h) (Or.inl ⟨by rfl, ?_⟩) (by assumption) ?_
  rotate_left
  · intro w hSw
    go_simp
    try with_reducible rfl
  simp only [Act.put, List.getElem_toArray, List.getElem_cons_zero, List.getElem_cons_succ, List.setIfInBounds_toArray, List.set_cons_zero, List.set_cons_succ]
  refine wpAnyH_ready (rs := [4]) (by kernel_rfl) (by simp) ?_
  refine AllReadyH.cons rfl (fun K hK => ?_) AllReadyH.nil
  go_simp
  refine (rowsE hHeld.2.2.2.2.2.2.2.2.2.2.2.2.out.l).mono ?_
  rintro e w9 ⟨rfl, rfl⟩
  refine hK.out _ _ (hHeld) (fun hHeld => ?_)
  clear hK K 
  refine wpAnyH_take (i := 5) (v := ?_) rfl (by kernel_rfl) (by kernel_rfl) (by kernel_rfl) (fun _ _ _ h => h) (Or.inl ⟨by rfl, ?_⟩) (by assumption) ?_
  rotate_left
  · intro w hSw
    go_simp
    try with_reducible rfl
  simp only [Act.put, List.getElem_toArray, List.getElem_cons_zero, List.getElem_cons_succ, List.setIfInBounds_toArray, List.set_cons_zero, List.set_cons_succ]
  refine wpAnyH_ready (rs := [7]) (by kernel_rfl) (by simp) ?_
  refine AllReadyH.cons rfl (fun K hK => ?_) AllReadyH.nil
  go_simp
  refine (rowsE hHeld.2.2.2.2.2.2.2.2.2.2.2.2.out.r).mono ?_
  rintro e w9 ⟨rfl, rfl⟩
  refine hK.out _ _ (hHeld) (fun hHeld => ?_)
  clear hK K 
  refine wpAnyH_take (i := 8) (v := ?_) rfl (by kernel_rfl) (by kernel_rfl) (by kernel_rfl) (fun _ _ _ h => h) (Or.inl ⟨by rfl, ?_⟩) (by assumption) ?_
  rotate_left
  · intro w hSw
    go_simp
    try with_reducible rfl
  simp only [Act.put, List.getElem_toArray, List.getElem_cons_zero, List.getElem_cons_succ, List.setIfInBounds_toArray, List.set_cons_zero, List.set_cons_succ]
  refine wpAnyH_ready (rs := [10]) (by kernel_rfl) (by simp) ?_
  refine AllReadyH.cons rfl (fun K hK => ?_) AllReadyH.nil
  go_simp
  refine (levelsE hHeld.2.2.2.2.2.2.2.2.2.2.2.2.out.l).mono ?_
  rintro e w9 ⟨rfl, rfl⟩
  refine hK.out _ _ (hHeld) (fun hHeld => ?_)
  clear hK K 
  refine wpAnyH_ready (rs := [12]) (by kernel_rfl) (by simp) ?_
  refine AllReadyH.cons rfl (fun K hK => ?_) AllReadyH.nil
  go_simp
  refine (levelsE hHeld.2.2.2.2.2.2.2.2.2.2.2.2.out.r).mono ?_
  rintro e w9 ⟨rfl, rfl⟩
  refine hK.out _ _ (hHeld) (fun hHeld => ?_)
  clear hK K 
  refine wpAnyH_take (i := 13) (v := ?_) rfl (by kernel_rfl) (by kernel_rfl) (by kernel_rfl) (fun _ _ _ h => h) (Or.inl ⟨by rfl, ?_⟩) (by assumption) ?_
  rotate_left
  · intro w hSw
    go_simp
    try with_reducible rfl
  simp only [Act.put, List.getElem_toArray, List.getElem_cons_zero, List.getElem_cons_succ, List.setIfInBounds_toArray, List.set_cons_zero, List.set_cons_succ]
  generalize hm : (if l.ht < r.ht then (r.ht : Int) else (l.ht : Int)) = mh
  have HM := aside hm
  clear hm
  refine wpAnyH_take (i := 14) (v := ?_) rfl (by kernel_rfl) (by kernel_rfl) (by kernel_rfl) (fun _ _ _ h => h) (Or.inl ⟨by rfl, ?_⟩) (by assumption) ?_
  rotate_left
  · intro w hSw
    go_simp
    try with_reducible rfl
  simp only [Act.put, List.getElem_toArray, List.getElem_cons_zero, List.getElem_cons_succ, List.setIfInBounds_toArray, List.set_cons_zero, List.set_cons_succ]
  refine wpAnyH_take (i := 16) (v := ?_) rfl (by kernel_rfl) (by kernel_rfl) (by kernel_rfl) (fun _ _ _ h => h) (Or.inl ⟨by rfl, ?_⟩) (by assumption) ?_
  rotate_left
  · intro w hSw
    go_simp
    try with_reducible rfl
  simp only [Act.put, List.getElem_toArray, List.getElem_cons_zero, List.getElem_cons_succ, List.setIfInBounds_toArray, List.set_cons_zero, List.set_cons_succ]
  refine wpAnyH_ready (rs := [17]) (by kernel_rfl) (by simp) ?_
  refine AllReadyH.cons rfl (fun K hK => ?_) AllReadyH.nil
  go_simp
  refine hK.out _ _ ((hHeld.2.2.2.2.2.2.2.2.2.2.2.2.out.alloc _).held) (fun hHeld => ?_)
  clear hK K 
  refine wpAnyH_take (i := 18) (v := ?_) rfl (by kernel_rfl) (by kernel_rfl) (by kernel_rfl) (fun _ _ _ h => h) (Or.inl ⟨by rfl, ?_⟩) (by assumption) ?_
  rotate_left
  · intro w hSw
    go_simp
    try with_reducible rfl
  simp only [Act.put, List.getElem_toArray, List.getElem_cons_zero, List.getElem_cons_succ, List.setIfInBounds_toArray, List.set_cons_zero, List.set_cons_succ]
  refine wpAnyH_done (by kernel_rfl) ?_ _
  go_wp2
  refine bodyPost_ret (v := .pointer (some ⟨Vl.heap.size, 0, none⟩)) (by simp [results, Tryd.results87, go_sem]) rfl ?_
  exact hangDoneE (n0 := n) HM.out H0l.out (by simp [Tr.sum, hnl, hnr]) (by simp [Tr.hangC, hnl, hnr]) HW.out
end Go.Proofs.YtlbkcndmljlnmaaDoor

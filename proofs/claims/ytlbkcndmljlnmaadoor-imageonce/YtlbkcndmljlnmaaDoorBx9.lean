/-
  hang (E), a case.
  hang (E).
  What a function that is handed a row has laid (E).
  turnRight (E), case A.
-/
import Derived.Test.YtlbkcndmljlnmaaDoorBx7
import Derived.Test.YtlbkcndmljlnmaaDoorBx8
namespace Go.Proofs.YtlbkcndmljlnmaaDoor
open Go.RowKit
set_option linter.unusedVariables false
set_option maxHeartbeats 3200000 in
set_option maxRecDepth 100000 in
theorem hangE11 {jv : Value} {c : Option Nat} (HB : BothOkE jv c) {w : World} {tb n : Nat} {root : Option Addr} {l r : Tr En Tl} {bl : Nat} {br : Nat} (k : ByteArray) (v : En) (s : Tl)
    (ht : TObjE w tb jv root) (hc : CntE c n w) (hl : IsTE w (some ⟨bl, 0, none⟩) l) (hr : IsTE w (some ⟨br, 0, none⟩) r) (hw : (Tr.node l k v s r).wt tSz ≤ 4611686018427387904) (hnl : l.isNil = false) (hnr : r.isNil = false) :
    Calls Tryd.prog 87 #[.pointer (some ⟨tb, 0, none⟩), .agg #[.string k, .string v.k, .int .i64 v.c, .int .i64 v.n, .string v.v, .bool v.d, .int .i64 s.n, .int .u64 s.a, .int .u64 s.b], .pointer (some ⟨bl, 0, none⟩), .pointer (some ⟨br, 0, none⟩)] w fun e w' => ∃ p, e = .returned (.pointer p) ∧ IsTE w' p (Tr.node l k v s r) ∧ CntE c (n + Tr.hangC l r) w' ∧ Keeps (OnC c) w w' := by
  have H0 := aside (hstE k v s ht hc hl hr)
  have HC := aside hc
  have HW := aside hw
  simp only [Tr.wt] at hw
  have hsl := Tr.sum_le tSz_le tZero l hnl
  have hlel : tSz (l.sum tJoin tZero) + tSz s ≤ 4611686018427387904 := by omega
  have hx := tSz_le (l.sum tJoin tZero) s
  have hsr := Tr.sum_le tSz_le tZero r hnr
  have hler : tSz (tJoin (l.sum tJoin tZero) s) + tSz (r.sum tJoin tZero) ≤ 4611686018427387904 := by omega
  clear ht hc hl hr hw hsl hsr hx
  go_enter Tryd.func87, Tryd.ntmps87
  go_wp2_with fail
  generalize (w.alloc (.cells #[.string k, .string v.k, .int .i64 v.c, .int .i64 v.n, .string v.v, .bool v.d, .int .i64 s.n, .int .u64 s.a, .int .u64 s.b] 143)).alloc (.cells #[.int .i64 s.n, .int .u64 s.a, .int .u64 s.b] 97) = V at *
  refine wp_region_held_drew (S := fun X => X.cell? ⟨bl, 13, none⟩ = some (.int .i64 (l.sum tJoin tZero).n) ∧ X.cell? ⟨bl, 14, none⟩ = some (.int .u64 (l.sum tJoin tZero).a) ∧ X.cell? ⟨bl, 15, none⟩ = some (.int .u64 (l.sum tJoin tZero).b)) (by kernel_rfl) (sumAtE H0.out.drew.l) (fun hHeld => ?_)
  refine wpAnyH_take (i := 0) (v := ?_) rfl (by kernel_rfl) (by kernel_rfl) (by kernel_rfl) (fun _ _ _ h => h) (Or.inl ⟨by rfl, ?_⟩) (by assumption) ?_
  rotate_left
  · intro w hSw
    go_simp
    try with_reducible rfl
  simp only [Act.put, List.getElem_toArray, List.getElem_cons_zero, List.setIfInBounds_toArray, List.set_cons_zero, List.set_cons_succ]
  refine wpAnyH_take (i := 1) (v := ?_) rfl (by kernel_rfl) (by kernel_rfl) (by kernel_rfl) (fun _ _ _ h => h) (Or.inl ⟨by rfl, ?_⟩) (by assumption) ?_
  rotate_left
  · intro w hSw
    go_simp
    try with_reducible rfl
  simp only [Act.put, List.getElem_toArray, List.getElem_cons_zero, List.getElem_cons_succ, List.setIfInBounds_toArray, List.set_cons_zero, List.set_cons_succ]
  refine wpAnyH_take (i := 2) (v := ?_) rfl (by kernel_rfl) (by kernel_rfl) (by kernel_rfl) (fun _ _ _ h => h) (Or.inl ⟨by rfl, ?_⟩) (by assumption) ?_
  rotate_left
  · intro w hSw
    go_simp
    try with_reducible rfl
  simp only [Act.put, List.getElem_toArray, List.getElem_cons_zero, List.getElem_cons_succ, List.setIfInBounds_toArray, List.set_cons_zero, List.set_cons_succ]
  refine wpAnyH_take (i := 3) (v := ?_) rfl (by kernel_rfl) (by kernel_rfl) (by kernel_rfl) (fun _ _ _ h => h) (Or.inl ⟨by rfl, ?_⟩) (by assumption) ?_
  rotate_left
  · intro w hSw
    go_simp
    try with_reducible rfl
  simp only [Act.put, List.getElem_toArray, List.getElem_cons_zero, List.getElem_cons_succ, List.setIfInBounds_toArray, List.set_cons_zero, List.set_cons_succ]
  refine wpAnyH_take (i := 4) (v := ?_) rfl (by kernel_rfl) (by kernel_rfl) (by kernel_rfl) (fun _ _ _ h => h) (Or.inl ⟨by rfl, ?_⟩) (by assumption) ?_
  rotate_left
  · intro w hSw
    go_simp
    try with_reducible rfl
  simp only [Act.put, List.getElem_toArray, List.getElem_cons_zero, List.getElem_cons_succ, List.setIfInBounds_toArray, List.set_cons_zero, List.set_cons_succ]
  obtain ⟨s0, s1, s2, z0, z1, z2⟩ := tri H0.out.drew.sm
  refine wpAnyH_ready (rs := [5]) (by kernel_rfl) (by simp) ?_
  refine AllReadyH.cons rfl (fun K hK => ?_) AllReadyH.nil
  go_simp
  refine hK.out _ _ (hHeld) (fun hHeld => ?_)
  clear hK K 
  clear s0 s1 s2 z0 z1 z2
  refine wpAnyH_ready (rs := [6]) (by kernel_rfl) (by simp) ?_
  refine AllReadyH.cons rfl (fun K hK => ?_) AllReadyH.nil
  go_simp
  refine (HB _ tb n root (l.sum tJoin tZero) s H0.out.drew.tobj H0.out.drew.cnt hlel).mono ?_
  rintro e w9 ⟨rfl, bc, kk⟩
  refine hK.out _ _ (sumAtE (H0.out.drew.on HC.out kk bc).l) (fun hHeld => ?_)
  clear hK K 
  have H0la := aside (H0.out.drew.on HC.out kk bc)
  obtain ⟨s0, s1, s2, z0, z1, z2⟩ := tri H0la.out.sm
  clear bc kk H0
  refine wpAnyH_ready (rs := [7]) (by kernel_rfl) (by simp) ?_
  refine AllReadyH.cons rfl (fun K hK => ?_) AllReadyH.nil
  go_simp
  refine hK.out _ _ (sumAtE (H0la.out.set HC.out (tJoin (l.sum tJoin tZero) s)).l) (fun hHeld => ?_)
  clear hK K 
  have H0l := aside (H0la.out.set HC.out (tJoin (l.sum tJoin tZero) s))
  clear hHeld s0 s1 s2 z0 z1 z2 H0la
  refine wpAnyH_done (by kernel_rfl) ?_ _
  unfold set3 at H0l
  generalize ((w9.setCell ⟨w.heap.size + 1, 0, none⟩ (.int .i64 (tJoin (l.sum tJoin tZero) s).n)).setCell ⟨w.heap.size + 1, 1, none⟩ (.int .u64 (tJoin (l.sum tJoin tZero) s).a)).setCell ⟨w.heap.size + 1, 2, none⟩ (.int .u64 (tJoin (l.sum tJoin tZero) s).b) = Vl at *
  go_wp2_with fail
  refine wp_region_held_drew (S := fun X => X.cell? ⟨br, 13, none⟩ = some (.int .i64 (r.sum tJoin tZero).n) ∧ X.cell? ⟨br, 14, none⟩ = some (.int .u64 (r.sum tJoin tZero).a) ∧ X.cell? ⟨br, 15, none⟩ = some (.int .u64 (r.sum tJoin tZero).b)) (by kernel_rfl) (sumAtE H0l.out.drew.r) (fun hHeld => ?_)
  refine wpAnyH_take (i := 0) (v := ?_) rfl (by kernel_rfl) (by kernel_rfl) (by kernel_rfl) (fun _ _ _ h => h) (Or.inl ⟨by rfl, ?_⟩) (by assumption) ?_
  rotate_left
  · intro w hSw
    go_simp
    try with_reducible rfl
  simp only [Act.put, List.getElem_toArray, List.getElem_cons_zero, List.setIfInBounds_toArray, List.set_cons_zero, List.set_cons_succ]
  refine wpAnyH_take (i := 2) (v := ?_) rfl (by kernel_rfl) (by kernel_rfl) (by kernel_rfl) (fun _ _ _ h => h) (Or.inl ⟨by rfl, ?_⟩) (by assumption) ?_
  rotate_left
  · intro w hSw
    go_simp
    try with_reducible rfl
  simp only [Act.put, List.getElem_toArray, List.getElem_cons_zero, List.getElem_cons_succ, List.setIfInBounds_toArray, List.set_cons_zero, List.set_cons_succ]
  refine wpAnyH_take (i := 3) (v := ?_) rfl (by kernel_rfl) (by kernel_rfl) (by kernel_rfl) (fun _ _ _ h => h) (Or.inl ⟨by rfl, ?_⟩) (by assumption) ?_
  rotate_left
  · intro w hSw
    go_simp
    try with_reducible rfl
  simp only [Act.put, List.getElem_toArray, List.getElem_cons_zero, List.getElem_cons_succ, List.setIfInBounds_toArray, List.set_cons_zero, List.set_cons_succ]
  refine wpAnyH_take (i := 4) (v := ?_) rfl (by kernel_rfl) (by kernel_rfl) (by kernel_rfl) (fun _ _ _ h => h) (Or.inl ⟨by rfl, ?_⟩) (by assumption) ?_
  rotate_left
  · intro w hSw
    go_simp
    try with_reducible rfl
  simp only [Act.put, List.getElem_toArray, List.getElem_cons_zero, List.getElem_cons_succ, List.setIfInBounds_toArray, List.set_cons_zero, List.set_cons_succ]
  refine wpAnyH_take (i := 5) (v := ?_) rfl (by kernel_rfl) (by kernel_rfl) (by kernel_rfl) (fun _ _ _ h => h) (Or.inl ⟨by rfl, ?_⟩) (by assumption) ?_
  rotate_left
  · intro w hSw
    go_simp
    try with_reducible rfl
  simp only [Act.put, List.getElem_toArray, List.getElem_cons_zero, List.getElem_cons_succ, List.setIfInBounds_toArray, List.set_cons_zero, List.set_cons_succ]
  obtain ⟨s0, s1, s2, z0, z1, z2⟩ := tri H0l.out.drew.sm
  refine wpAnyH_ready (rs := [1]) (by kernel_rfl) (by simp) ?_
  refine AllReadyH.cons rfl (fun K hK => ?_) AllReadyH.nil
  go_simp
  refine hK.out _ _ (hHeld) (fun hHeld => ?_)
  clear hK K 
  clear s0 s1 s2 z0 z1 z2
  refine wpAnyH_ready (rs := [6]) (by kernel_rfl) (by simp) ?_
  refine AllReadyH.cons rfl (fun K hK => ?_) AllReadyH.nil
  go_simp
  refine (HB _ tb (n + 1) root (tJoin (l.sum tJoin tZero) s) (r.sum tJoin tZero) H0l.out.drew.tobj H0l.out.drew.cnt hler).mono ?_
  rintro e w9 ⟨rfl, bc, kk⟩
  refine hK.out _ _ (sumAtE (H0l.out.drew.on HC.out kk bc).r) (fun hHeld => ?_)
  clear hK K 
  have H0lra := aside (H0l.out.drew.on HC.out kk bc)
  obtain ⟨s0, s1, s2, z0, z1, z2⟩ := tri H0lra.out.sm
  clear bc kk H0l
  refine wpAnyH_ready (rs := [7]) (by kernel_rfl) (by simp) ?_
  refine AllReadyH.cons rfl (fun K hK => ?_) AllReadyH.nil
  go_simp
  refine hK.out _ _ (sumAtE (H0lra.out.set HC.out (tJoin (tJoin (l.sum tJoin tZero) s) (r.sum tJoin tZero))).r) (fun hHeld => ?_)
  clear hK K 
  have H0lr := aside (H0lra.out.set HC.out (tJoin (tJoin (l.sum tJoin tZero) s) (r.sum tJoin tZero)))
  clear hHeld s0 s1 s2 z0 z1 z2 H0lra
  refine wpAnyH_done (by kernel_rfl) ?_ _
  unfold set3 at H0lr
  generalize ((w9.setCell ⟨w.heap.size + 1, 0, none⟩ (.int .i64 (tJoin (tJoin (l.sum tJoin tZero) s) (r.sum tJoin tZero)).n)).setCell ⟨w.heap.size + 1, 1, none⟩ (.int .u64 (tJoin (tJoin (l.sum tJoin tZero) s) (r.sum tJoin tZero)).a)).setCell ⟨w.heap.size + 1, 2, none⟩ (.int .u64 (tJoin (tJoin (l.sum tJoin tZero) s) (r.sum tJoin tZero)).b) = Vr at *
  go_wp2_with fail
  refine wp_region_held_drew (S := fun X => X.cell? ⟨w.heap.size, 0, none⟩ = some (.string k) ∧ X.cell? ⟨w.heap.size, 1, none⟩ = some (.string v.k) ∧ X.cell? ⟨w.heap.size, 2, none⟩ = some (.int .i64 v.c) ∧ X.cell? ⟨w.heap.size, 3, none⟩ = some (.int .i64 v.n) ∧ X.cell? ⟨w.heap.size, 4, none⟩ = some (.string v.v) ∧ X.cell? ⟨w.heap.size, 5, none⟩ = some (.bool v.d) ∧ X.cell? ⟨w.heap.size, 6, none⟩ = some (.int .i64 s.n) ∧ X.cell? ⟨w.heap.size, 7, none⟩ = some (.int .u64 s.a) ∧ X.cell? ⟨w.heap.size, 8, none⟩ = some (.int .u64 s.b) ∧ X.cell? ⟨w.heap.size + 1, 0, none⟩ = some (.int .i64 (tJoin (tJoin (l.sum tJoin tZero) s) (r.sum tJoin tZero)).n) ∧ X.cell? ⟨w.heap.size + 1, 1, none⟩ = some (.int .u64 (tJoin (tJoin (l.sum tJoin tZero) s) (r.sum tJoin tZero)).a) ∧ X.cell? ⟨w.heap.size + 1, 2, none⟩ = some (.int .u64 (tJoin (tJoin (l.sum tJoin tZero) s) (r.sum tJoin tZero)).b) ∧ Hid (HStE w X tb ((n + 1) + 1) jv root c k v s (tJoin (tJoin (l.sum tJoin tZero) s) (r.sum tJoin tZero)) l r (some ⟨bl, 0, none⟩) (some ⟨br, 0, none⟩))) (by kernel_rfl) H0lr.out.drew.held (fun hHeld => ?_)
  refine wpAnyH_take (i := 0) (v := ?_) rfl (by kernel_rfl) (by kernel_rfl) (by kernel_rfl) (fun _ _ _ h => h) (Or.inl ⟨by rfl, ?_⟩) (by assumption) ?_
  rotate_left
  · intro w hSw
    go_simp
    try with_reducible rfl
  simp only [Act.put, List.getElem_toArray, List.getElem_cons_zero, List.setIfInBounds_toArray, List.set_cons_zero, List.set_cons_succ]
  refine wpAnyH_take (i := 1) (v := ?_) rfl (by kernel_rfl) (by kernel_rfl) (by kernel_rfl) (fun _ _ _ h => h) (Or.inl ⟨by rfl, ?_⟩) (by assumption) ?_
  rotate_left
  · intro w hSw
    go_simp
    try with_reducible rfl
  simp only [Act.put, List.getElem_toArray, List.getElem_cons_zero, List.getElem_cons_succ, List.setIfInBounds_toArray, List.set_cons_zero, List.set_cons_succ]
  refine wpAnyH_take (i := 2) (v := ?_) rfl (by kernel_rfl) (by kernel_rfl) (by kernel_rfl) (fun _ _ _ h => h) (Or.inl ⟨by rfl, ?_⟩) (by assumption) ?_
  rotate_left
  · intro w hSw
    go_simp
    try with_reducible rfl
  simp only [Act.put, List.getElem_toArray, List.getElem_cons_zero, List.getElem_cons_succ, List.setIfInBounds_toArray, List.set_cons_zero, List.set_cons_succ]
  refine wpAnyH_take (i := 3) (v := ?_) rfl (by kernel_rfl) (by kernel_rfl) (by kernel_rfl) (fun _ _ _ h => h) (Or.inl ⟨by rfl, ?_⟩) (by assumption) ?_
  rotate_left
  · intro w hSw
    go_simp
    try with_reducible rfl
  simp only [Act.put, List.getElem_toArray, List.getElem_cons_zero, List.getElem_cons_succ, List.setIfInBounds_toArray, List.set_cons_zero, List.set_cons_succ]
  refine wpAnyH_take (i := 6) (v := ?_) rfl (by kernel_rfl) (by kernel_rfl) (by kernel_rfl) (fun _ _ _ h => h) (Or.inl ⟨by rfl, ?_⟩) (by assumption) ?_
  rotate_left
  · intro w hSw
    go_simp
    try with_reducible rfl
  simp only [Act.put, List.getElem_toArray, List.getElem_cons_zero, List.getElem_cons_succ, List.setIfInBounds_toArray, List.set_cons_zero, List.set_cons_succ]
  refine wpAnyH_take (i := 9) (v := ?_) rfl (by kernel_rfl) (by kernel_rfl) (by kernel_rfl) (fun _ _ _ h => h) (Or.inl ⟨by rfl, ?_⟩) (by assumption) ?_
  rotate_left
  · intro w hSw
    go_simp
    try with_reducible rfl
  simp only [Act.put, List.getElem_toArray, List.getElem_cons_zero, List.getElem_cons_succ, List.setIfInBounds_toArray, List.set_cons_zero, List.set_cons_succ]
  refine wpAnyH_take (i := 11) (v := ?_) rfl (by kernel_rfl) (by kernel_rfl) (by kernel_rfl) (fun _ _ _ h => h) (Or.inl ⟨by rfl, ?_⟩) (by assumption) ?_
  rotate_left
  · intro w hSw
    go_simp
    try with_reducible rfl
  simp only [Act.put, List.getElem_toArray, List.getElem_cons_zero, List.getElem_cons_succ, List.setIfInBounds_toArray, List.set_cons_zero, List.set_cons_succ]
  refine wpAnyH_take (i := 15) (v := ?_) rfl (by kernel_rfl) (by kernel_rfl) (by kernel_rfl) (fun _ _ _ h => h) (Or.inl ⟨by rfl, ?_⟩) (by assumption) ?_
  rotate_left
  · intro w hSw
    go_simp
    try with_reducible rfl
  simp only [Act.put, List.getElem_toArray, List.getElem_cons_zero, List.getElem_cons_succ, List.setIfInBounds_toArray, List.set_cons_zero, List.set_cons_succ]
  refine wpAnyH_ready (rs := [4]) (by kernel_rfl) (by simp) ?_
  refine AllReadyH.cons rfl (fun K hK => ?_) AllReadyH.nil
  go_simp
  refine (rowsE hHeld.2.2.2.2.2.2.2.2.2.2.2.2.out.l).mono ?_
  rintro e w9 ⟨rfl, rfl⟩
  refine hK.out _ _ (hHeld) (fun hHeld => ?_)
  clear hK K 
  refine wpAnyH_take (i := 5) (v := ?_) rfl (by kernel_rfl) (by kernel_rfl) (by kernel_rfl) (fun _ _ _ h => h) (Or.inl ⟨by rfl, ?_⟩) (by assumption) ?_
  rotate_left
  · intro w hSw
    go_simp
    try with_reducible rfl
  simp only [Act.put, List.getElem_toArray, List.getElem_cons_zero, List.getElem_cons_succ, List.setIfInBounds_toArray, List.set_cons_zero, List.set_cons_succ]
  refine wpAnyH_ready (rs := [7]) (by kernel_rfl) (by simp) ?_
  refine AllReadyH.cons rfl (fun K hK => ?_) AllReadyH.nil
  go_simp
  refine (rowsE hHeld.2.2.2.2.2.2.2.2.2.2.2.2.out.r).mono ?_
  rintro e w9 ⟨rfl, rfl⟩
  refine hK.out _ _ (hHeld) (fun hHeld => ?_)
  clear hK K 
  refine wpAnyH_take (i := 8) (v := ?_) rfl (by kernel_rfl) (by kernel_rfl) (by kernel_rfl) (fun _ _ _ h => h) (Or.inl ⟨by rfl, ?_⟩) (by assumption) ?_
  rotate_left
  · intro w hSw
    go_simp
    try with_reducible rfl
  simp only [Act.put, List.getElem_toArray, List.getElem_cons_zero, List.getElem_cons_succ, List.setIfInBounds_toArray, List.set_cons_zero, List.set_cons_succ]
  refine wpAnyH_ready (rs := [10]) (by kernel_rfl) (by simp) ?_
  refine AllReadyH.cons rfl (fun K hK => ?_) AllReadyH.nil
  go_simp
  refine (levelsE hHeld.2.2.2.2.2.2.2.2.2.2.2.2.out.l).mono ?_
  rintro e w9 ⟨rfl, rfl⟩
  refine hK.out _ _ (hHeld) (fun hHeld => ?_)
  clear hK K 
  refine wpAnyH_ready (rs := [12]) (by kernel_rfl) (by simp) ?_
  refine AllReadyH.cons rfl (fun K hK => ?_) AllReadyH.nil
  go_simp
  refine (levelsE hHeld.2.2.2.2.2.2.2.2.2.2.2.2.out.r).mono ?_
  rintro e w9 ⟨rfl, rfl⟩
  refine hK.out _ _ (hHeld) (fun hHeld => ?_)
  clear hK K 
  refine wpAnyH_take (i := 13) (v := ?_) rfl (by kernel_rfl) (by kernel_rfl) (by kernel_rfl) (fun _ _ _ h => h) (Or.inl ⟨by rfl, ?_⟩) (by assumption) ?_
  rotate_left
  · intro w hSw
    go_simp
    try with_reducible rfl
  simp only [Act.put, List.getElem_toArray, List.getElem_cons_zero, List.getElem_cons_succ, List.setIfInBounds_toArray, List.set_cons_zero, List.set_cons_succ]
  generalize hm : (if l.ht < r.ht then (r.ht : Int) else (l.ht : Int)) = mh
  have HM := aside hm
  clear hm
  refine wpAnyH_take (i := 14) (v := ?_) rfl (by kernel_rfl) (by kernel_rfl) (by kernel_rfl) (fun _ _ _ h => h) (Or.inl ⟨by rfl, ?_⟩) (by assumption) ?_
  rotate_left
  · intro w hSw
    go_simp
    try with_reducible rfl
  simp only [Act.put, List.getElem_toArray, List.getElem_cons_zero, List.getElem_cons_succ, List.setIfInBounds_toArray, List.set_cons_zero, List.set_cons_succ]
  refine wpAnyH_take (i := 16) (v := ?_) rfl (by kernel_rfl) (by kernel_rfl) (by kernel_rfl) (fun _ _ _ h => h) (Or.inl ⟨by rfl, ?_⟩) (by assumption) ?_
  rotate_left
  · intro w hSw
    go_simp
    try with_reducible rfl
  simp only [Act.put, List.getElem_toArray, List.getElem_cons_zero, List.getElem_cons_succ, List.setIfInBounds_toArray, List.set_cons_zero, List.set_cons_succ]
  refine wpAnyH_ready (rs := [17]) (by kernel_rfl) (by simp) ?_
  refine AllReadyH.cons rfl (fun K hK => ?_) AllReadyH.nil
  go_simp
  refine hK.out _ _ ((hHeld.2.2.2.2.2.2.2.2.2.2.2.2.out.alloc _).held) (fun hHeld => ?_)
  clear hK K 
  refine wpAnyH_take (i := 18) (v := ?_) rfl (by kernel_rfl) (by kernel_rfl) (by kernel_rfl) (fun _ _ _ h => h) (Or.inl ⟨by rfl, ?_⟩) (by assumption) ?_
  rotate_left
  · intro w hSw
    go_simp
    try with_reducible rfl
  simp only [Act.put, List.getElem_toArray, List.getElem_cons_zero, List.getElem_cons_succ, List.setIfInBounds_toArray, List.set_cons_zero, List.set_cons_succ]
  refine wpAnyH_done (by kernel_rfl) ?_ _
  go_wp2
  refine bodyPost_ret (v := .pointer (some ⟨Vr.heap.size, 0, none⟩)) (by simp [results, Tryd.results87, go_sem]) rfl ?_
  exact hangDoneE (n0 := n) HM.out H0lr.out (by simp [Tr.sum, hnl, hnr]) (by simp [Tr.hangC, hnl, hnr]) HW.out
end Go.Proofs.YtlbkcndmljlnmaaDoor
namespace Go.Proofs.YtlbkcndmljlnmaaDoor
open Go.RowKit
set_option linter.unusedVariables false
theorem hangE {jv : Value} {c : Option Nat} (HB : BothOkE jv c) {w : World} {tb n : Nat} {root : Option Addr} {l r : Tr En Tl} {lp rp : Option Addr} (k : ByteArray) (v : En) (s : Tl)
    (ht : TObjE w tb jv root) (hc : CntE c n w) (hl : IsTE w lp l) (hr : IsTE w rp r) (hw : (Tr.node l k v s r).wt tSz ≤ 4611686018427387904) :
    Calls Tryd.prog 87 #[.pointer (some ⟨tb, 0, none⟩), .agg #[.string k, .string v.k, .int .i64 v.c, .int .i64 v.n, .string v.v, .bool v.d, .int .i64 s.n, .int .u64 s.a, .int .u64 s.b], .pointer lp, .pointer rp] w fun e w' => ∃ p, e = .returned (.pointer p) ∧ IsTE w' p (Tr.node l k v s r) ∧ CntE c (n + Tr.hangC l r) w' ∧ Keeps (OnC c) w w' := by
  rcases hl.two with ⟨rfl, e1⟩ | ⟨bl, rfl, e1⟩ <;> rcases hr.two with ⟨rfl, e2⟩ | ⟨br, rfl, e2⟩
  · exact hangE00 HB k v s ht hc hl hr hw (by rw [e1]; rfl) (by rw [e2]; rfl)
  · exact hangE01 HB k v s ht hc hl hr hw (by rw [e1]; rfl) e2
  · exact hangE10 HB k v s ht hc hl hr hw e1 (by rw [e2]; rfl)
  · exact hangE11 HB k v s ht hc hl hr hw e1 e2
end Go.Proofs.YtlbkcndmljlnmaaDoor
namespace Go.Proofs.YtlbkcndmljlnmaaDoor
open Go.RowKit
set_option linter.unusedVariables false
structure LStE (w V : World) (tb n : Nat) (jv : Value) (root : Option Addr) (c : Option Nat) (k : ByteArray) (v : En) (s : Tl) : Prop where
  keeps : Keeps (OnC c) w V
  cnt : CntE c n V
  tobj : TObjE V tb jv root
  row : V.heap[w.heap.size]? = some (.cells #[.string k, .string v.k, .int .i64 v.c, .int .i64 v.n, .string v.v, .bool v.d, .int .i64 s.n, .int .u64 s.a, .int .u64 s.b] 143 (0, 0))
  stay : Stay 145 w V
theorem LStE.drew {w V : World} {tb n : Nat} {jv : Value} {root : Option Addr} {c : Option Nat} {k : ByteArray} {v : En} {s : Tl} (h : LStE w V tb n jv root c k v s) : LStE w V.drew tb n jv root c k v s := ⟨h.keeps.drew, h.cnt.drew, h.tobj, h.row, h.stay.drew⟩
theorem LStE.on {w V : World} {tb n : Nat} {jv : Value} {root : Option Addr} {c : Option Nat} {k : ByteArray} {v : En} {s : Tl} {V' : World} {m n0 : Nat} (h : LStE w V tb n jv root c k v s) (h0 : CntE c n0 w) (kk : Keeps (OnC c) V V') (hm : CntE c m V') : LStE w V' tb m jv root c k v s :=
  ⟨h.keeps.trans kk, hm, h.tobj.onC h.cnt kk, blk_keep h.row kk (h0.lt (by omega)), h.stay.onE h.cnt kk (by decide)⟩
theorem lstE {w : World} {tb n : Nat} {jv : Value} {root : Option Addr} {c : Option Nat} (k : ByteArray) (v : En) (s : Tl) (ht : TObjE w tb jv root) (hc : CntE c n w) :
    LStE w (w.alloc (.cells #[.string k, .string v.k, .int .i64 v.c, .int .i64 v.n, .string v.v, .bool v.d, .int .i64 s.n, .int .u64 s.a, .int .u64 s.b] 143)) tb n jv root c k v s := by
  refine ⟨(Keeps.refl _ w).alloc _, hc.alloc _, ?_, heap_alloc_new w _, (Stay.refl _ w).alloc _⟩
  unfold TObjE at ht ⊢
  exact blk_on ht (bnew _ _)
theorem LStE.cells {w X : World} {tb n : Nat} {jv : Value} {root : Option Addr} {c : Option Nat} {k : ByteArray} {v : En} {s : Tl} (h : LStE w X tb n jv root c k v s) : X.cell? ⟨w.heap.size, 0, none⟩ = some (.string k) ∧ X.cell? ⟨w.heap.size, 1, none⟩ = some (.string v.k) ∧ X.cell? ⟨w.heap.size, 2, none⟩ = some (.int .i64 v.c) ∧ X.cell? ⟨w.heap.size, 3, none⟩ = some (.int .i64 v.n) ∧ X.cell? ⟨w.heap.size, 4, none⟩ = some (.string v.v) ∧ X.cell? ⟨w.heap.size, 5, none⟩ = some (.bool v.d) ∧ X.cell? ⟨w.heap.size, 6, none⟩ = some (.int .i64 s.n) ∧ X.cell? ⟨w.heap.size, 7, none⟩ = some (.int .u64 s.a) ∧ X.cell? ⟨w.heap.size, 8, none⟩ = some (.int .u64 s.b) := by
  have h1 := h.row
  simp [World.cell?, h1]
end Go.Proofs.YtlbkcndmljlnmaaDoor
namespace Go.Proofs.YtlbkcndmljlnmaaDoor
open Go.RowKit
set_option linter.unusedVariables false
theorem turnRAE_held {w X : World} {tb n : Nat} {jv : Value} {root : Option Addr} {c : Option Nat} {k gk : ByteArray} {v gv : En} {s gs gq : Tl} {bg : Nat} {glp grp : Option Addr} {gc gh : Int} (h : LStE w X tb n jv root c k v s) (hg : w.heap[bg]? = some (.cells #[.string gk, .string gv.k, .int .i64 gv.c, .int .i64 gv.n, .string gv.v, .bool gv.d, .int .i64 gs.n, .int .u64 gs.a, .int .u64 gs.b, .pointer glp, .pointer grp, .int .i64 gc, .int .i64 gh, .int .i64 gq.n, .int .u64 gq.a, .int .u64 gq.b] 145 (0, 0))) : X.cell? ⟨w.heap.size, 0, none⟩ = some (.string k) ∧ X.cell? ⟨w.heap.size, 1, none⟩ = some (.string v.k) ∧ X.cell? ⟨w.heap.size, 2, none⟩ = some (.int .i64 v.c) ∧ X.cell? ⟨w.heap.size, 3, none⟩ = some (.int .i64 v.n) ∧ X.cell? ⟨w.heap.size, 4, none⟩ = some (.string v.v) ∧ X.cell? ⟨w.heap.size, 5, none⟩ = some (.bool v.d) ∧ X.cell? ⟨w.heap.size, 6, none⟩ = some (.int .i64 s.n) ∧ X.cell? ⟨w.heap.size, 7, none⟩ = some (.int .u64 s.a) ∧ X.cell? ⟨w.heap.size, 8, none⟩ = some (.int .u64 s.b) ∧ X.cell? ⟨bg, 0, none⟩ = some (.string gk) ∧ X.cell? ⟨bg, 1, none⟩ = some (.string gv.k) ∧ X.cell? ⟨bg, 2, none⟩ = some (.int .i64 gv.c) ∧ X.cell? ⟨bg, 3, none⟩ = some (.int .i64 gv.n) ∧ X.cell? ⟨bg, 4, none⟩ = some (.string gv.v) ∧ X.cell? ⟨bg, 5, none⟩ = some (.bool gv.d) ∧ X.cell? ⟨bg, 6, none⟩ = some (.int .i64 gs.n) ∧ X.cell? ⟨bg, 7, none⟩ = some (.int .u64 gs.a) ∧ X.cell? ⟨bg, 8, none⟩ = some (.int .u64 gs.b) ∧ X.cell? ⟨bg, 9, none⟩ = some (.pointer glp) := by
  obtain ⟨r0, r1, r2, r3, r4, r5, r6, r7, r8⟩ := h.cells
  obtain ⟨g0, g1, g2, g3, g4, g5, g6, g7, g8, g9, -, -, -, -, -, -⟩ := nodeE (h.stay _ _ hg)
  skip
  exact ⟨r0, r1, r2, r3, r4, r5, r6, r7, r8, g0, g1, g2, g3, g4, g5, g6, g7, g8, g9⟩
set_option maxHeartbeats 3200000 in
set_option maxRecDepth 100000 in
theorem turnRAE {jv : Value} {c : Option Nat} (HB : BothOkE jv c) {w : World} {tb n : Nat} {root : Option Addr} (k : ByteArray) (v : En) (s : Tl) {gk : ByteArray} {gv : En} {gs gq : Tl} {bg : Nat} {glp grp op : Option Addr} {gc gh : Int} {gl gr o : Tr En Tl} 
    (ht : TObjE w tb jv root) (hc : CntE c n w) (hg : w.heap[bg]? = some (.cells #[.string gk, .string gv.k, .int .i64 gv.c, .int .i64 gv.n, .string gv.v, .bool gv.d, .int .i64 gs.n, .int .u64 gs.a, .int .u64 gs.b, .pointer glp, .pointer grp, .int .i64 gc, .int .i64 gh, .int .i64 gq.n, .int .u64 gq.a, .int .u64 gq.b] 145 (0, 0))) (hgl : IsTE w glp gl) (hgr : IsTE w grp gr) (ho : IsTE w op o) (hcmp : gr.ht ≤ gl.ht) (hw0 : (Tr.node gr k v s o).wt tSz ≤ 4611686018427387904) (hw1 : (Tr.node gl gk gv gs (Tr.node gr k v s o)).wt tSz ≤ 4611686018427387904) :
    Calls Tryd.prog 105 #[.pointer (some ⟨tb, 0, none⟩), .agg #[.string k, .string v.k, .int .i64 v.c, .int .i64 v.n, .string v.v, .bool v.d, .int .i64 s.n, .int .u64 s.a, .int .u64 s.b], .pointer (some ⟨bg, 0, none⟩), .pointer op] w fun e w' => ∃ p, e = .returned (.pointer p) ∧ IsTE w' p (Tr.node gl gk gv gs (Tr.node gr k v s o)) ∧ CntE c ((n + Tr.hangC gr o) + Tr.hangC gl (Tr.node gr k v s o)) w' ∧ Keeps (OnC c) w w' := by
  have H := aside (lstE k v s ht hc)
  have HC := aside hc
  have HG := aside hg
  skip
  have CO := aside (fun (W : World) (h : Stay 145 w W) => levelsE (hgl.on h))
  have CI := aside (fun (W : World) (h : Stay 145 w W) => levelsE (hgr.on h))
  have hcm : (gr.ht : Int) ≤ (gl.ht : Int) := by omega
  generalize (gl.ht : Int) = ho1 at *
  generalize (gr.ht : Int) = hi1 at *
  have h1 := nodeE (H.out.stay _ _ hg)
  obtain ⟨-, -, -, -, -, -, -, -, -, g9, g10, -, -, -, -, -⟩ := h1
  clear ht hc hg hcmp
  go_enter Tryd.func105, Tryd.ntmps105
  go_wp2_with fail
  refine (CO.out _ H.out.stay).mono ?_
  rintro e w1 ⟨rfl, rfl⟩
  go_wp2_with fail
  refine (CI.out _ H.out.stay).mono ?_
  rintro e w1 ⟨rfl, rfl⟩
  go_wp2_with fail
  clear g9 g10 CO CI
  generalize w.alloc (.cells #[.string k, .string v.k, .int .i64 v.c, .int .i64 v.n, .string v.v, .bool v.d, .int .i64 s.n, .int .u64 s.a, .int .u64 s.b] 143) = V at *
  refine wp_region_held_drew (S := fun X => X.cell? ⟨w.heap.size, 0, none⟩ = some (.string k) ∧ X.cell? ⟨w.heap.size, 1, none⟩ = some (.string v.k) ∧ X.cell? ⟨w.heap.size, 2, none⟩ = some (.int .i64 v.c) ∧ X.cell? ⟨w.heap.size, 3, none⟩ = some (.int .i64 v.n) ∧ X.cell? ⟨w.heap.size, 4, none⟩ = some (.string v.v) ∧ X.cell? ⟨w.heap.size, 5, none⟩ = some (.bool v.d) ∧ X.cell? ⟨w.heap.size, 6, none⟩ = some (.int .i64 s.n) ∧ X.cell? ⟨w.heap.size, 7, none⟩ = some (.int .u64 s.a) ∧ X.cell? ⟨w.heap.size, 8, none⟩ = some (.int .u64 s.b) ∧ X.cell? ⟨bg, 0, none⟩ = some (.string gk) ∧ X.cell? ⟨bg, 1, none⟩ = some (.string gv.k) ∧ X.cell? ⟨bg, 2, none⟩ = some (.int .i64 gv.c) ∧ X.cell? ⟨bg, 3, none⟩ = some (.int .i64 gv.n) ∧ X.cell? ⟨bg, 4, none⟩ = some (.string gv.v) ∧ X.cell? ⟨bg, 5, none⟩ = some (.bool gv.d) ∧ X.cell? ⟨bg, 6, none⟩ = some (.int .i64 gs.n) ∧ X.cell? ⟨bg, 7, none⟩ = some (.int .u64 gs.a) ∧ X.cell? ⟨bg, 8, none⟩ = some (.int .u64 gs.b) ∧ X.cell? ⟨bg, 9, none⟩ = some (.pointer glp)) (by kernel_rfl) (turnRAE_held H.out.drew HG.out) (fun hHeld => ?_)
  refine wpAnyH_take (i := 0) (v := ?_) rfl (by kernel_rfl) (by kernel_rfl) (by kernel_rfl) (fun _ _ _ h => h) (Or.inl ⟨by rfl, ?_⟩) (by assumption) ?_
  rotate_left
  · intro w hSw
    go_simp
    try with_reducible rfl
  simp only [Act.put, List.getElem_toArray, List.getElem_cons_zero, List.setIfInBounds_toArray, List.set_cons_zero, List.set_cons_succ]
  refine wpAnyH_take (i := 1) (v := ?_) rfl (by kernel_rfl) (by kernel_rfl) (by kernel_rfl) (fun _ _ _ h => h) (Or.inl ⟨by rfl, ?_⟩) (by assumption) ?_
  rotate_left
  · intro w hSw
    go_simp
    try with_reducible rfl
  simp only [Act.put, List.getElem_toArray, List.getElem_cons_zero, List.getElem_cons_succ, List.setIfInBounds_toArray, List.set_cons_zero, List.set_cons_succ]
  refine wpAnyH_take (i := 2) (v := ?_) rfl (by kernel_rfl) (by kernel_rfl) (by kernel_rfl) (fun _ _ _ h => h) (Or.inl ⟨by rfl, ?_⟩) (by assumption) ?_
  rotate_left
  · intro w hSw
    go_simp
    try with_reducible rfl
  simp only [Act.put, List.getElem_toArray, List.getElem_cons_zero, List.getElem_cons_succ, List.setIfInBounds_toArray, List.set_cons_zero, List.set_cons_succ]
  refine wpAnyH_take (i := 3) (v := ?_) rfl (by kernel_rfl) (by kernel_rfl) (by kernel_rfl) (fun _ _ _ h => h) (Or.inl ⟨by rfl, ?_⟩) (by assumption) ?_
  rotate_left
  · intro w hSw
    go_simp
    try with_reducible rfl
  simp only [Act.put, List.getElem_toArray, List.getElem_cons_zero, List.getElem_cons_succ, List.setIfInBounds_toArray, List.set_cons_zero, List.set_cons_succ]
  refine wpAnyH_take (i := 4) (v := ?_) rfl (by kernel_rfl) (by kernel_rfl) (by kernel_rfl) (fun _ _ _ h => h) (Or.inl ⟨by rfl, ?_⟩) (by assumption) ?_
  rotate_left
  · intro w hSw
    go_simp
    try with_reducible rfl
  simp only [Act.put, List.getElem_toArray, List.getElem_cons_zero, List.getElem_cons_succ, List.setIfInBounds_toArray, List.set_cons_zero, List.set_cons_succ]
  refine wpAnyH_take (i := 5) (v := ?_) rfl (by kernel_rfl) (by kernel_rfl) (by kernel_rfl) (fun _ _ _ h => h) (Or.inl ⟨by rfl, ?_⟩) (by assumption) ?_
  rotate_left
  · intro w hSw
    go_simp
    try with_reducible rfl
  simp only [Act.put, List.getElem_toArray, List.getElem_cons_zero, List.getElem_cons_succ, List.setIfInBounds_toArray, List.set_cons_zero, List.set_cons_succ]
  refine wpAnyH_take (i := 6) (v := ?_) rfl (by kernel_rfl) (by kernel_rfl) (by kernel_rfl) (fun _ _ _ h => h) (Or.inl ⟨by rfl, ?_⟩) (by assumption) ?_
  rotate_left
  · intro w hSw
    go_simp
    try with_reducible rfl
  simp only [Act.put, List.getElem_toArray, List.getElem_cons_zero, List.getElem_cons_succ, List.setIfInBounds_toArray, List.set_cons_zero, List.set_cons_succ]
  refine wpAnyH_take (i := 7) (v := ?_) rfl (by kernel_rfl) (by kernel_rfl) (by kernel_rfl) (fun _ _ _ h => h) (Or.inl ⟨by rfl, ?_⟩) (by assumption) ?_
  rotate_left
  · intro w hSw
    go_simp
    try with_reducible rfl
  simp only [Act.put, List.getElem_toArray, List.getElem_cons_zero, List.getElem_cons_succ, List.setIfInBounds_toArray, List.set_cons_zero, List.set_cons_succ]
  refine wpAnyH_take (i := 8) (v := ?_) rfl (by kernel_rfl) (by kernel_rfl) (by kernel_rfl) (fun _ _ _ h => h) (Or.inl ⟨by rfl, ?_⟩) (by assumption) ?_
  rotate_left
  · intro w hSw
    go_simp
    try with_reducible rfl
  simp only [Act.put, List.getElem_toArray, List.getElem_cons_zero, List.getElem_cons_succ, List.setIfInBounds_toArray, List.set_cons_zero, List.set_cons_succ]
  refine wpAnyH_take (i := 9) (v := ?_) rfl (by kernel_rfl) (by kernel_rfl) (by kernel_rfl) (fun _ _ _ h => h) (Or.inl ⟨by rfl, ?_⟩) (by assumption) ?_
  rotate_left
  · intro w hSw
    go_simp
    try with_reducible rfl
  simp only [Act.put, List.getElem_toArray, List.getElem_cons_zero, List.getElem_cons_succ, List.setIfInBounds_toArray, List.set_cons_zero, List.set_cons_succ]
  refine wpAnyH_take (i := 10) (v := ?_) rfl (by kernel_rfl) (by kernel_rfl) (by kernel_rfl) (fun _ _ _ h => h) (Or.inl ⟨by rfl, ?_⟩) (by assumption) ?_
  rotate_left
  · intro w hSw
    go_simp
    try with_reducible rfl
  simp only [Act.put, List.getElem_toArray, List.getElem_cons_zero, List.getElem_cons_succ, List.setIfInBounds_toArray, List.set_cons_zero, List.set_cons_succ]
  refine wpAnyH_take (i := 11) (v := ?_) rfl (by kernel_rfl) (by kernel_rfl) (by kernel_rfl) (fun _ _ _ h => h) (Or.inl ⟨by rfl, ?_⟩) (by assumption) ?_
  rotate_left
  · intro w hSw
    go_simp
    try with_reducible rfl
  simp only [Act.put, List.getElem_toArray, List.getElem_cons_zero, List.getElem_cons_succ, List.setIfInBounds_toArray, List.set_cons_zero, List.set_cons_succ]
  refine wpAnyH_take (i := 12) (v := ?_) rfl (by kernel_rfl) (by kernel_rfl) (by kernel_rfl) (fun _ _ _ h => h) (Or.inl ⟨by rfl, ?_⟩) (by assumption) ?_
  rotate_left
  · intro w hSw
    go_simp
    try with_reducible rfl
  simp only [Act.put, List.getElem_toArray, List.getElem_cons_zero, List.getElem_cons_succ, List.setIfInBounds_toArray, List.set_cons_zero, List.set_cons_succ]
  refine wpAnyH_ready (rs := [13]) (by kernel_rfl) (by simp) ?_
  refine AllReadyH.cons rfl (fun K hK => ?_) AllReadyH.nil
  go_simp
  refine (hangE HB k v s H.out.drew.tobj H.out.drew.cnt (hgr.on H.out.drew.stay) (ho.on H.out.drew.stay) hw0).mono ?_
  rintro e w9 ⟨p1, rfl, ii, bc, kk⟩
  refine hK.out _ _ (turnRAE_held (H.out.drew.on HC.out kk bc) HG.out) (fun hHeld => ?_)
  clear hK K 
  have H1 := aside (H.out.drew.on HC.out kk bc)
  have I1 := aside ii
  clear ii bc kk
  refine wpAnyH_ready (rs := [14]) (by kernel_rfl) (by simp) ?_
  refine AllReadyH.cons rfl (fun K hK => ?_) AllReadyH.nil
  go_simp
  refine (hangE HB gk gv gs H1.out.tobj H1.out.cnt (hgl.on H1.out.stay) I1.out hw1).mono ?_
  rintro e w9 ⟨p2, rfl, ii, bc, kk⟩
  refine hK.out _ _ (turnRAE_held (H1.out.on HC.out kk bc) HG.out) (fun hHeld => ?_)
  clear hK K 
  have H2 := aside (H1.out.on HC.out kk bc)
  have I2 := aside ii
  clear ii bc kk
  refine wpAnyH_take (i := 15) (v := ?_) rfl (by kernel_rfl) (by kernel_rfl) (by kernel_rfl) (fun _ _ _ h => h) (Or.inl ⟨by rfl, ?_⟩) (by assumption) ?_
  rotate_left
  · intro w hSw
    go_simp
    try with_reducible rfl
  simp only [Act.put, List.getElem_toArray, List.getElem_cons_zero, List.getElem_cons_succ, List.setIfInBounds_toArray, List.set_cons_zero, List.set_cons_succ]
  refine wpAnyH_done (by kernel_rfl) ?_ _
  go_wp2
  exact bodyPost_ret (v := .pointer p2) (by simp [results, Tryd.results105, go_sem]) rfl ⟨p2, rfl, I2.out, H2.out.cnt, H2.out.keeps⟩
end Go.Proofs.YtlbkcndmljlnmaaDoor

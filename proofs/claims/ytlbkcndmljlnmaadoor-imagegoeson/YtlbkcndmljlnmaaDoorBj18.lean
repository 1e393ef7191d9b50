/-
  fold (E), a case.
-/
import Derived.Test.YtlbkcndmljlnmaaDoorBj16
namespace Go.Proofs.YtlbkcndmljlnmaaDoor
open Go.RowKit
set_option linter.unusedVariables false
set_option maxHeartbeats 6400000 in
set_option maxRecDepth 100000 in
theorem foldD11E {jv : Value} {c : Option Nat} (HB : BothOkE jv c) {w : World} {tb n : Nat} {root : Option Addr} {l : Tr En Tl} {k : ByteArray} {v : En} {s q : Tl} {b : Nat} {lp rp : Option Addr} {C H I J lc : Int} (ht : TObjE w tb jv root) (hc : CntE c n w) (hb : w.heap[b]? = some (.cells #[.string k, .string v.k, .int .i64 v.c, .int .i64 v.n, .string v.v, .bool v.d, .int .i64 s.n, .int .u64 s.a, .int .u64 s.b, .pointer lp, .pointer rp, .int .i64 C, .int .i64 H, .int .i64 q.n, .int .u64 q.a, .int .u64 q.b] 145 (0, 0))) (hl : IsTE w lp l) (hlc : (l.cnt : Int) = lc) {yl : Tl} {cl : Nat} (CFL : ∀ (W : World) (m : Nat), TObjE W tb jv root → CntE c m W → Stay 145 w W → Calls Tryd.prog 99 #[.pointer (some ⟨tb, 0, none⟩), .pointer lp, .int .i64 I, .int .i64 lc] W fun e w' => e = .returned (.agg #[.int .i64 yl.n, .int .u64 yl.a, .int .u64 yl.b]) ∧ CntE c (m + cl) w' ∧ Keeps (OnC c) W w') (hzl : tSz yl + tSz s ≤ 4611686018427387904) {yr : Tl} {cr : Nat} (CFR : ∀ (W : World) (m : Nat), TObjE W tb jv root → CntE c m W → Stay 145 w W → Calls Tryd.prog 99 #[.pointer (some ⟨tb, 0, none⟩), .pointer rp, .int .i64 0, .int .i64 (J - lc - 1)] W fun e w' => e = .returned (.agg #[.int .i64 yr.n, .int .u64 yr.a, .int .u64 yr.b]) ∧ CntE c (m + cr) w' ∧ Keeps (OnC c) W w') (hzr : tSz (tJoin yl s) + tSz yr ≤ 4611686018427387904) (w3 : IntKind.i64.wrap (J - lc) = J - lc) (w4 : IntKind.i64.wrap (J - lc - 1) = J - lc - 1) (hz : (I == 0) = true → (J == C) = false) (h1 : ¬ J ≤ lc) (h2 : ¬ lc < I) (h3 : I < lc) (w5 : IntKind.i64.wrap (lc + 1) = lc + 1) (h4 : lc + 1 < J) : Calls Tryd.prog 99 #[.pointer (some ⟨tb, 0, none⟩), .pointer (some ⟨b, 0, none⟩), .int .i64 I, .int .i64 J] w fun e w' => e = .returned (.agg #[.int .i64 (tJoin (tJoin yl s) yr).n, .int .u64 (tJoin (tJoin yl s) yr).a, .int .u64 (tJoin (tJoin yl s) yr).b]) ∧ CntE c ((n + cl + 1) + cr + 1) w' ∧ Keeps (OnC c) w w' := by
  have F := aside (fstE ht hc)
  have HC := aside hc
  have HN := aside hb
  have hn := nodeE (F.out.stay _ _ hb)
  obtain ⟨-, -, -, -, -, -, n6, n7, n8, n9, n10, n11, -, -, -, -⟩ := hn
  have CR := aside (fun (W : World) (h : Stay 145 w W) => hlc ▸ rowsE (hl.on h))
  have CL' := aside CFL
  clear CFL
  have CR' := aside CFR
  clear CFR
  clear ht hc hb hl hlc
  cases hz0 : (I == 0)
  · clear hz
    go_enter Tryd.func99, Tryd.ntmps99
    go_wp2_with fail
    refine (CR.out _ F.out.stay).mono ?_
    rintro e w1 ⟨rfl, rfl⟩
    have G := aside (f2stE s F.out)
    go_wp2_with fail
    clear n11 n9 n10 n6 n7 n8 CR
    clear F
    generalize (w.alloc (.cells #[.int .i64 0, .int .u64 0, .int .u64 0] 97)).alloc (.cells #[.int .i64 s.n, .int .u64 s.a, .int .u64 s.b] 97) = V at *
    refine wp_region_held_drew (S := fun X => X.cell? ⟨b, 9, none⟩ = some (.pointer lp)) (by kernel_rfl) (nodePlE (G.out.drew.st.stay _ _ HN.out)) (fun hHeld => ?_)
    refine wpAnyH_take (i := 0) (v := ?_) rfl (by kernel_rfl) (by kernel_rfl) (by kernel_rfl) (fun _ _ _ h => h) (Or.inl ⟨by rfl, ?_⟩) (by assumption) ?_
    rotate_left
    · intro w hSw
      go_simp
      try with_reducible rfl
    simp only [Act.put, List.getElem_toArray, List.getElem_cons_zero, List.setIfInBounds_toArray, List.set_cons_zero, List.set_cons_succ]
    refine wpAnyH_take (i := 1) (v := ?_) rfl (by kernel_rfl) (by kernel_rfl) (by kernel_rfl) (fun _ _ _ h => h) (Or.inl ⟨by rfl, ?_⟩) (by assumption) ?_
    rotate_left
    · intro w hSw
      go_simp
      try with_reducible rfl
    simp only [Act.put, List.getElem_toArray, List.getElem_cons_zero, List.getElem_cons_succ, List.setIfInBounds_toArray, List.set_cons_zero, List.set_cons_succ]
    refine wpAnyH_take (i := 2) (v := ?_) rfl (by kernel_rfl) (by kernel_rfl) (by kernel_rfl) (fun _ _ _ h => h) (Or.inl ⟨by rfl, ?_⟩) (by assumption) ?_
    rotate_left
    · intro w hSw
      go_simp
      try with_reducible rfl
    simp only [Act.put, List.getElem_toArray, List.getElem_cons_zero, List.getElem_cons_succ, List.setIfInBounds_toArray, List.set_cons_zero, List.set_cons_succ]
    refine wpAnyH_take (i := 3) (v := ?_) rfl (by kernel_rfl) (by kernel_rfl) (by kernel_rfl) (fun _ _ _ h => h) (Or.inl ⟨by rfl, ?_⟩) (by assumption) ?_
    rotate_left
    · intro w hSw
      go_simp
      try with_reducible rfl
    simp only [Act.put, List.getElem_toArray, List.getElem_cons_zero, List.getElem_cons_succ, List.setIfInBounds_toArray, List.set_cons_zero, List.set_cons_succ]
    refine wpAnyH_take (i := 4) (v := ?_) rfl (by kernel_rfl) (by kernel_rfl) (by kernel_rfl) (fun _ _ _ h => h) (Or.inl ⟨by rfl, ?_⟩) (by assumption) ?_
    rotate_left
    · intro w hSw
      go_simp
      try with_reducible rfl
    simp only [Act.put, List.getElem_toArray, List.getElem_cons_zero, List.getElem_cons_succ, List.setIfInBounds_toArray, List.set_cons_zero, List.set_cons_succ]
    refine wpAnyH_take (i := 5) (v := ?_) rfl (by kernel_rfl) (by kernel_rfl) (by kernel_rfl) (fun _ _ _ h => h) (Or.inl ⟨by rfl, ?_⟩) (by assumption) ?_
    rotate_left
    · intro w hSw
      go_simp
      try with_reducible rfl
    simp only [Act.put, List.getElem_toArray, List.getElem_cons_zero, List.getElem_cons_succ, List.setIfInBounds_toArray, List.set_cons_zero, List.set_cons_succ]
    refine wpAnyH_take (i := 6) (v := ?_) rfl (by kernel_rfl) (by kernel_rfl) (by kernel_rfl) (fun _ _ _ h => h) (Or.inl ⟨by rfl, ?_⟩) (by assumption) ?_
    rotate_left
    · intro w hSw
      go_simp
      try with_reducible rfl
    simp only [Act.put, List.getElem_toArray, List.getElem_cons_zero, List.getElem_cons_succ, List.setIfInBounds_toArray, List.set_cons_zero, List.set_cons_succ]
    refine wpAnyH_take (i := 7) (v := ?_) rfl (by kernel_rfl) (by kernel_rfl) (by kernel_rfl) (fun _ _ _ h => h) (Or.inl ⟨by rfl, ?_⟩) (by assumption) ?_
    rotate_left
    · intro w hSw
      go_simp
      try with_reducible rfl
    simp only [Act.put, List.getElem_toArray, List.getElem_cons_zero, List.getElem_cons_succ, List.setIfInBounds_toArray, List.set_cons_zero, List.set_cons_succ]
    refine wpAnyH_ready (rs := [8, 9]) (by kernel_rfl) (by simp) ?_
    refine AllReadyH.cons rfl (fun K hK => ?_) (AllReadyH.cons rfl (fun K hK => ?_) AllReadyH.nil)
    · go_simp
      refine (CL'.out _ _ G.out.drew.st.tobj G.out.drew.st.cnt G.out.drew.st.stay).mono ?_
      rintro e w9 ⟨rfl, bc, kk⟩
      refine hK.out _ _ (nodePlE ((G.out.drew.on HC.out kk bc).st.stay _ _ HN.out)) (fun hHeld => ?_)
      clear hK K
      have G1 := aside (G.out.drew.on HC.out kk bc)
      clear bc kk
      obtain ⟨s0, s1, s2, z0, z1, z2⟩ := tri G1.out.sm
      refine wpAnyH_ready (rs := [9]) (by kernel_rfl) (by simp) ?_
      refine AllReadyH.cons rfl (fun K hK => ?_) AllReadyH.nil
      go_simp
      refine hK.out _ _ (hHeld) (fun hHeld => ?_)
      clear hK K 
      clear s0 s1 s2 z0 z1 z2
      refine wpAnyH_ready (rs := [10]) (by kernel_rfl) (by simp) ?_
      refine AllReadyH.cons rfl (fun K hK => ?_) AllReadyH.nil
      go_simp
      refine (HB _ tb (n + cl) root yl s G1.out.st.tobj G1.out.st.cnt hzl).mono ?_
      rintro e w9 ⟨rfl, bc, kk⟩
      refine hK.out _ _ (nodePlE ((G1.out.on HC.out kk bc).st.stay _ _ HN.out)) (fun hHeld => ?_)
      clear hK K 
      have G1b := aside (G1.out.on HC.out kk bc)
      obtain ⟨s0, s1, s2, z0, z1, z2⟩ := tri G1b.out.sm
      clear bc kk
      refine wpAnyH_ready (rs := [11]) (by kernel_rfl) (by simp) ?_
      refine AllReadyH.cons rfl (fun K hK => ?_) AllReadyH.nil
      go_simp
      refine hK.out _ _ (nodePlE ((G1b.out.set HC.out (tJoin yl s)).st.stay _ _ HN.out)) (fun hHeld => ?_)
      clear hK K 
      have G1c := aside (G1b.out.set HC.out (tJoin yl s))
      clear hHeld s0 s1 s2 z0 z1 z2 G1b
      unfold set3 at G1c
      refine wpAnyH_done (by kernel_rfl) ?_ _
      generalize ((w9.setCell ⟨w.heap.size + 1, 0, none⟩ (.int .i64 (tJoin yl s).n)).setCell ⟨w.heap.size + 1, 1, none⟩ (.int .u64 (tJoin yl s).a)).setCell ⟨w.heap.size + 1, 2, none⟩ (.int .u64 (tJoin yl s).b) = V1 at *
      go_wp2_with fail
      refine wp_region_held_drew (S := fun X => X.cell? ⟨b, 10, none⟩ = some (.pointer rp)) (by kernel_rfl) (nodePrE (G1c.out.drew.st.stay _ _ HN.out)) (fun hHeld => ?_)
      refine wpAnyH_take (i := 0) (v := ?_) rfl (by kernel_rfl) (by kernel_rfl) (by kernel_rfl) (fun _ _ _ h => h) (Or.inl ⟨by rfl, ?_⟩) (by assumption) ?_
      rotate_left
      · intro w hSw
        go_simp
        try with_reducible rfl
      simp only [Act.put, List.getElem_toArray, List.getElem_cons_zero, List.setIfInBounds_toArray, List.set_cons_zero, List.set_cons_succ]
      refine wpAnyH_take (i := 2) (v := ?_) rfl (by kernel_rfl) (by kernel_rfl) (by kernel_rfl) (fun _ _ _ h => h) (Or.inl ⟨by rfl, ?_⟩) (by assumption) ?_
      rotate_left
      · intro w hSw
        go_simp
        try with_reducible rfl
      simp only [Act.put, List.getElem_toArray, List.getElem_cons_zero, List.getElem_cons_succ, List.setIfInBounds_toArray, List.set_cons_zero, List.set_cons_succ]
      refine wpAnyH_take (i := 3) (v := ?_) rfl (by kernel_rfl) (by kernel_rfl) (by kernel_rfl) (fun _ _ _ h => h) (Or.inl ⟨by rfl, ?_⟩) (by assumption) ?_
      rotate_left
      · intro w hSw
        go_simp
        try with_reducible rfl
      simp only [Act.put, List.getElem_toArray, List.getElem_cons_zero, List.getElem_cons_succ, List.setIfInBounds_toArray, List.set_cons_zero, List.set_cons_succ]
      refine wpAnyH_take (i := 4) (v := ?_) rfl (by kernel_rfl) (by kernel_rfl) (by kernel_rfl) (fun _ _ _ h => h) (Or.inl ⟨by rfl, ?_⟩) (by assumption) ?_
      rotate_left
      · intro w hSw
        go_simp
        try with_reducible rfl
      simp only [Act.put, List.getElem_toArray, List.getElem_cons_zero, List.getElem_cons_succ, List.setIfInBounds_toArray, List.set_cons_zero, List.set_cons_succ]
      refine wpAnyH_take (i := 5) (v := ?_) rfl (by kernel_rfl) (by kernel_rfl) (by kernel_rfl) (fun _ _ _ h => h) (Or.inl ⟨by rfl, ?_⟩) (by assumption) ?_
      rotate_left
      · intro w hSw
        go_simp
        try with_reducible rfl
      simp only [Act.put, List.getElem_toArray, List.getElem_cons_zero, List.getElem_cons_succ, List.setIfInBounds_toArray, List.set_cons_zero, List.set_cons_succ]
      refine wpAnyH_take (i := 6) (v := ?_) rfl (by kernel_rfl) (by kernel_rfl) (by kernel_rfl) (fun _ _ _ h => h) (Or.inl ⟨by rfl, ?_⟩) (by assumption) ?_
      rotate_left
      · intro w hSw
        go_simp
        try with_reducible rfl
      simp only [Act.put, List.getElem_toArray, List.getElem_cons_zero, List.getElem_cons_succ, List.setIfInBounds_toArray, List.set_cons_zero, List.set_cons_succ]
      refine wpAnyH_take (i := 7) (v := ?_) rfl (by kernel_rfl) (by kernel_rfl) (by kernel_rfl) (fun _ _ _ h => h) (Or.inl ⟨by rfl, ?_⟩) (by assumption) ?_
      rotate_left
      · intro w hSw
        go_simp
        try with_reducible rfl
      simp only [Act.put, List.getElem_toArray, List.getElem_cons_zero, List.getElem_cons_succ, List.setIfInBounds_toArray, List.set_cons_zero, List.set_cons_succ]
      refine wpAnyH_take (i := 8) (v := ?_) rfl (by kernel_rfl) (by kernel_rfl) (by kernel_rfl) (fun _ _ _ h => h) (Or.inl ⟨by rfl, ?_⟩) (by assumption) ?_
      rotate_left
      · intro w hSw
        go_simp
        try with_reducible rfl
      simp only [Act.put, List.getElem_toArray, List.getElem_cons_zero, List.getElem_cons_succ, List.setIfInBounds_toArray, List.set_cons_zero, List.set_cons_succ]
      refine wpAnyH_take (i := 9) (v := ?_) rfl (by kernel_rfl) (by kernel_rfl) (by kernel_rfl) (fun _ _ _ h => h) (Or.inl ⟨by rfl, ?_⟩) (by assumption) ?_
      rotate_left
      · intro w hSw
        go_simp
        try with_reducible rfl
      simp only [Act.put, List.getElem_toArray, List.getElem_cons_zero, List.getElem_cons_succ, List.setIfInBounds_toArray, List.set_cons_zero, List.set_cons_succ]
      refine wpAnyH_take (i := 10) (v := ?_) rfl (by kernel_rfl) (by kernel_rfl) (by kernel_rfl) (fun _ _ _ h => h) (Or.inl ⟨by rfl, ?_⟩) (by assumption) ?_
      rotate_left
      · intro w hSw
        go_simp
        try with_reducible rfl
      simp only [Act.put, List.getElem_toArray, List.getElem_cons_zero, List.getElem_cons_succ, List.setIfInBounds_toArray, List.set_cons_zero, List.set_cons_succ]
      refine wpAnyH_ready (rs := [1, 11]) (by kernel_rfl) (by simp) ?_
      refine AllReadyH.cons rfl (fun K hK => ?_) (AllReadyH.cons rfl (fun K hK => ?_) AllReadyH.nil)
      · obtain ⟨s0, s1, s2, z0, z1, z2⟩ := tri G1c.out.drew.sm
        go_simp
        refine hK.out _ _ hHeld (fun hHeld => ?_)
        clear hK K s0 s1 s2 z0 z1 z2
        refine wpAnyH_ready (rs := [11]) (by kernel_rfl) (by simp) ?_
        refine AllReadyH.cons rfl (fun K hK => ?_) AllReadyH.nil
        go_simp
        refine (CR'.out _ _ G1c.out.drew.st.tobj G1c.out.drew.st.cnt G1c.out.drew.st.stay).mono ?_
        rintro e w9 ⟨rfl, bc, kk⟩
        refine hK.out _ _ (nodePrE ((G1c.out.drew.on HC.out kk bc).st.stay _ _ HN.out)) (fun hHeld => ?_)
        clear hK K 
        have G1cx := aside (G1c.out.drew.on HC.out kk bc)
        clear bc kk
        refine wpAnyH_ready (rs := [12]) (by kernel_rfl) (by simp) ?_
        refine AllReadyH.cons rfl (fun K hK => ?_) AllReadyH.nil
        go_simp
        refine (HB _ tb ((n + cl + 1) + cr) root (tJoin yl s) yr G1cx.out.st.tobj G1cx.out.st.cnt hzr).mono ?_
        rintro e w9 ⟨rfl, bc, kk⟩
        refine hK.out _ _ (nodePrE ((G1cx.out.on HC.out kk bc).st.stay _ _ HN.out)) (fun hHeld => ?_)
        clear hK K 
        have G1cxb := aside (G1cx.out.on HC.out kk bc)
        obtain ⟨s0, s1, s2, z0, z1, z2⟩ := tri G1cxb.out.sm
        clear bc kk
        refine wpAnyH_ready (rs := [13]) (by kernel_rfl) (by simp) ?_
        refine AllReadyH.cons rfl (fun K hK => ?_) AllReadyH.nil
        go_simp
        refine hK.out _ _ (nodePrE ((G1cxb.out.set HC.out (tJoin (tJoin yl s) yr)).st.stay _ _ HN.out)) (fun hHeld => ?_)
        clear hK K 
        have G1cxc := aside (G1cxb.out.set HC.out (tJoin (tJoin yl s) yr))
        clear hHeld s0 s1 s2 z0 z1 z2 G1cxb
        unfold set3 at G1cxc
        refine wpAnyH_done (by kernel_rfl) ?_ _
        generalize ((w9.setCell ⟨w.heap.size + 1, 0, none⟩ (.int .i64 (tJoin (tJoin yl s) yr).n)).setCell ⟨w.heap.size + 1, 1, none⟩ (.int .u64 (tJoin (tJoin yl s) yr).a)).setCell ⟨w.heap.size + 1, 2, none⟩ (.int .u64 (tJoin (tJoin yl s) yr).b) = V2 at *
        obtain ⟨s0, s1, s2, z0, z1, z2⟩ := tri G1cxc.out.sm
        obtain ⟨t0, t1, t2, y0, y1, y2⟩ := tri G1cxc.out.st.res
        have E := aside (set3_end G1cxc.out.st HC.out (tJoin (tJoin yl s) yr))
        unfold set3 at E
        go_wp2
        exact bodyPost_ret (v := .agg #[.int .i64 (tJoin (tJoin yl s) yr).n, .int .u64 (tJoin (tJoin yl s) yr).a, .int .u64 (tJoin (tJoin yl s) yr).b]) (by simp [results, Tryd.results99, go_sem, t0, t1, t2]) rfl ⟨rfl, E.out.1, E.out.2⟩
      · go_simp
        refine (CR'.out _ _ G1c.out.drew.st.tobj G1c.out.drew.st.cnt G1c.out.drew.st.stay).mono ?_
        rintro e w9 ⟨rfl, bc, kk⟩
        refine hK.out _ _ (nodePrE ((G1c.out.drew.on HC.out kk bc).st.stay _ _ HN.out)) (fun hHeld => ?_)
        clear hK K
        have G1cx := aside (G1c.out.drew.on HC.out kk bc)
        clear bc kk
        obtain ⟨s0, s1, s2, z0, z1, z2⟩ := tri G1cx.out.sm
        refine wpAnyH_ready (rs := [1]) (by kernel_rfl) (by simp) ?_
        refine AllReadyH.cons rfl (fun K hK => ?_) AllReadyH.nil
        go_simp
        refine hK.out _ _ (hHeld) (fun hHeld => ?_)
        clear hK K 
        clear s0 s1 s2 z0 z1 z2
        refine wpAnyH_ready (rs := [12]) (by kernel_rfl) (by simp) ?_
        refine AllReadyH.cons rfl (fun K hK => ?_) AllReadyH.nil
        go_simp
        refine (HB _ tb ((n + cl + 1) + cr) root (tJoin yl s) yr G1cx.out.st.tobj G1cx.out.st.cnt hzr).mono ?_
        rintro e w9 ⟨rfl, bc, kk⟩
        refine hK.out _ _ (nodePrE ((G1cx.out.on HC.out kk bc).st.stay _ _ HN.out)) (fun hHeld => ?_)
        clear hK K 
        have G1cxb := aside (G1cx.out.on HC.out kk bc)
        obtain ⟨s0, s1, s2, z0, z1, z2⟩ := tri G1cxb.out.sm
        clear bc kk
        refine wpAnyH_ready (rs := [13]) (by kernel_rfl) (by simp) ?_
        refine AllReadyH.cons rfl (fun K hK => ?_) AllReadyH.nil
        go_simp
        refine hK.out _ _ (nodePrE ((G1cxb.out.set HC.out (tJoin (tJoin yl s) yr)).st.stay _ _ HN.out)) (fun hHeld => ?_)
        clear hK K 
        have G1cxc := aside (G1cxb.out.set HC.out (tJoin (tJoin yl s) yr))
        clear hHeld s0 s1 s2 z0 z1 z2 G1cxb
        unfold set3 at G1cxc
        refine wpAnyH_done (by kernel_rfl) ?_ _
        generalize ((w9.setCell ⟨w.heap.size + 1, 0, none⟩ (.int .i64 (tJoin (tJoin yl s) yr).n)).setCell ⟨w.heap.size + 1, 1, none⟩ (.int .u64 (tJoin (tJoin yl s) yr).a)).setCell ⟨w.heap.size + 1, 2, none⟩ (.int .u64 (tJoin (tJoin yl s) yr).b) = V2 at *
        obtain ⟨s0, s1, s2, z0, z1, z2⟩ := tri G1cxc.out.sm
        obtain ⟨t0, t1, t2, y0, y1, y2⟩ := tri G1cxc.out.st.res
        have E := aside (set3_end G1cxc.out.st HC.out (tJoin (tJoin yl s) yr))
        unfold set3 at E
        go_wp2
        exact bodyPost_ret (v := .agg #[.int .i64 (tJoin (tJoin yl s) yr).n, .int .u64 (tJoin (tJoin yl s) yr).a, .int .u64 (tJoin (tJoin yl s) yr).b]) (by simp [results, Tryd.results99, go_sem, t0, t1, t2]) rfl ⟨rfl, E.out.1, E.out.2⟩
    · obtain ⟨s0, s1, s2, z0, z1, z2⟩ := tri G.out.drew.sm
      go_simp
      refine hK.out _ _ hHeld (fun hHeld => ?_)
      clear hK K s0 s1 s2 z0 z1 z2
      refine wpAnyH_ready (rs := [8]) (by kernel_rfl) (by simp) ?_
      refine AllReadyH.cons rfl (fun K hK => ?_) AllReadyH.nil
      go_simp
      refine (CL'.out _ _ G.out.drew.st.tobj G.out.drew.st.cnt G.out.drew.st.stay).mono ?_
      rintro e w9 ⟨rfl, bc, kk⟩
      refine hK.out _ _ (nodePlE ((G.out.drew.on HC.out kk bc).st.stay _ _ HN.out)) (fun hHeld => ?_)
      clear hK K 
      have G1 := aside (G.out.drew.on HC.out kk bc)
      clear bc kk
      refine wpAnyH_ready (rs := [10]) (by kernel_rfl) (by simp) ?_
      refine AllReadyH.cons rfl (fun K hK => ?_) AllReadyH.nil
      go_simp
      refine (HB _ tb (n + cl) root yl s G1.out.st.tobj G1.out.st.cnt hzl).mono ?_
      rintro e w9 ⟨rfl, bc, kk⟩
      refine hK.out _ _ (nodePlE ((G1.out.on HC.out kk bc).st.stay _ _ HN.out)) (fun hHeld => ?_)
      clear hK K 
      have G1b := aside (G1.out.on HC.out kk bc)
      obtain ⟨s0, s1, s2, z0, z1, z2⟩ := tri G1b.out.sm
      clear bc kk
      refine wpAnyH_ready (rs := [11]) (by kernel_rfl) (by simp) ?_
      refine AllReadyH.cons rfl (fun K hK => ?_) AllReadyH.nil
      go_simp
      refine hK.out _ _ (nodePlE ((G1b.out.set HC.out (tJoin yl s)).st.stay _ _ HN.out)) (fun hHeld => ?_)
      clear hK K 
      have G1c := aside (G1b.out.set HC.out (tJoin yl s))
      clear hHeld s0 s1 s2 z0 z1 z2 G1b
      unfold set3 at G1c
      refine wpAnyH_done (by kernel_rfl) ?_ _
      generalize ((w9.setCell ⟨w.heap.size + 1, 0, none⟩ (.int .i64 (tJoin yl s).n)).setCell ⟨w.heap.size + 1, 1, none⟩ (.int .u64 (tJoin yl s).a)).setCell ⟨w.heap.size + 1, 2, none⟩ (.int .u64 (tJoin yl s).b) = V1 at *
      go_wp2_with fail
      refine wp_region_held_drew (S := fun X => X.cell? ⟨b, 10, none⟩ = some (.pointer rp)) (by kernel_rfl) (nodePrE (G1c.out.drew.st.stay _ _ HN.out)) (fun hHeld => ?_)
      refine wpAnyH_take (i := 0) (v := ?_) rfl (by kernel_rfl) (by kernel_rfl) (by kernel_rfl) (fun _ _ _ h => h) (Or.inl ⟨by rfl, ?_⟩) (by assumption) ?_
      rotate_left
      · intro w hSw
        go_simp
        try with_reducible rfl
      simp only [Act.put, List.getElem_toArray, List.getElem_cons_zero, List.setIfInBounds_toArray, List.set_cons_zero, List.set_cons_succ]
      refine wpAnyH_take (i := 2) (v := ?_) rfl (by kernel_rfl) (by kernel_rfl) (by kernel_rfl) (fun _ _ _ h => h) (Or.inl ⟨by rfl, ?_⟩) (by assumption) ?_
      rotate_left
      · intro w hSw
        go_simp
        try with_reducible rfl
      simp only [Act.put, List.getElem_toArray, List.getElem_cons_zero, List.getElem_cons_succ, List.setIfInBounds_toArray, List.set_cons_zero, List.set_cons_succ]
      refine wpAnyH_take (i := 3) (v := ?_) rfl (by kernel_rfl) (by kernel_rfl) (by kernel_rfl) (fun _ _ _ h => h) (Or.inl ⟨by rfl, ?_⟩) (by assumption) ?_
      rotate_left
      · intro w hSw
        go_simp
        try with_reducible rfl
      simp only [Act.put, List.getElem_toArray, List.getElem_cons_zero, List.getElem_cons_succ, List.setIfInBounds_toArray, List.set_cons_zero, List.set_cons_succ]
      refine wpAnyH_take (i := 4) (v := ?_) rfl (by kernel_rfl) (by kernel_rfl) (by kernel_rfl) (fun _ _ _ h => h) (Or.inl ⟨by rfl, ?_⟩) (by assumption) ?_
      rotate_left
      · intro w hSw
        go_simp
        try with_reducible rfl
      simp only [Act.put, List.getElem_toArray, List.getElem_cons_zero, List.getElem_cons_succ, List.setIfInBounds_toArray, List.set_cons_zero, List.set_cons_succ]
      refine wpAnyH_take (i := 5) (v := ?_) rfl (by kernel_rfl) (by kernel_rfl) (by kernel_rfl) (fun _ _ _ h => h) (Or.inl ⟨by rfl, ?_⟩) (by assumption) ?_
      rotate_left
      · intro w hSw
        go_simp
        try with_reducible rfl
      simp only [Act.put, List.getElem_toArray, List.getElem_cons_zero, List.getElem_cons_succ, List.setIfInBounds_toArray, List.set_cons_zero, List.set_cons_succ]
      refine wpAnyH_take (i := 6) (v := ?_) rfl (by kernel_rfl) (by kernel_rfl) (by kernel_rfl) (fun _ _ _ h => h) (Or.inl ⟨by rfl, ?_⟩) (by assumption) ?_
      rotate_left
      · intro w hSw
        go_simp
        try with_reducible rfl
      simp only [Act.put, List.getElem_toArray, List.getElem_cons_zero, List.getElem_cons_succ, List.setIfInBounds_toArray, List.set_cons_zero, List.set_cons_succ]
      refine wpAnyH_take (i := 7) (v := ?_) rfl (by kernel_rfl) (by kernel_rfl) (by kernel_rfl) (fun _ _ _ h => h) (Or.inl ⟨by rfl, ?_⟩) (by assumption) ?_
      rotate_left
      · intro w hSw
        go_simp
        try with_reducible rfl
      simp only [Act.put, List.getElem_toArray, List.getElem_cons_zero, List.getElem_cons_succ, List.setIfInBounds_toArray, List.set_cons_zero, List.set_cons_succ]
      refine wpAnyH_take (i := 8) (v := ?_) rfl (by kernel_rfl) (by kernel_rfl) (by kernel_rfl) (fun _ _ _ h => h) (Or.inl ⟨by rfl, ?_⟩) (by assumption) ?_
      rotate_left
      · intro w hSw
        go_simp
        try with_reducible rfl
      simp only [Act.put, List.getElem_toArray, List.getElem_cons_zero, List.getElem_cons_succ, List.setIfInBounds_toArray, List.set_cons_zero, List.set_cons_succ]
      refine wpAnyH_take (i := 9) (v := ?_) rfl (by kernel_rfl) (by kernel_rfl) (by kernel_rfl) (fun _ _ _ h => h) (Or.inl ⟨by rfl, ?_⟩) (by assumption) ?_
      rotate_left
      · intro w hSw
        go_simp
        try with_reducible rfl
      simp only [Act.put, List.getElem_toArray, List.getElem_cons_zero, List.getElem_cons_succ, List.setIfInBounds_toArray, List.set_cons_zero, List.set_cons_succ]
      refine wpAnyH_take (i := 10) (v := ?_) rfl (by kernel_rfl) (by kernel_rfl) (by kernel_rfl) (fun _ _ _ h => h) (Or.inl ⟨by rfl, ?_⟩) (by assumption) ?_
      rotate_left
      · intro w hSw
        go_simp
        try with_reducible rfl
      simp only [Act.put, List.getElem_toArray, List.getElem_cons_zero, List.getElem_cons_succ, List.setIfInBounds_toArray, List.set_cons_zero, List.set_cons_succ]
      refine wpAnyH_ready (rs := [1, 11]) (by kernel_rfl) (by simp) ?_
      refine AllReadyH.cons rfl (fun K hK => ?_) (AllReadyH.cons rfl (fun K hK => ?_) AllReadyH.nil)
      · obtain ⟨s0, s1, s2, z0, z1, z2⟩ := tri G1c.out.drew.sm
        go_simp
        refine hK.out _ _ hHeld (fun hHeld => ?_)
        clear hK K s0 s1 s2 z0 z1 z2
        refine wpAnyH_ready (rs := [11]) (by kernel_rfl) (by simp) ?_
        refine AllReadyH.cons rfl (fun K hK => ?_) AllReadyH.nil
        go_simp
        refine (CR'.out _ _ G1c.out.drew.st.tobj G1c.out.drew.st.cnt G1c.out.drew.st.stay).mono ?_
        rintro e w9 ⟨rfl, bc, kk⟩
        refine hK.out _ _ (nodePrE ((G1c.out.drew.on HC.out kk bc).st.stay _ _ HN.out)) (fun hHeld => ?_)
        clear hK K 
        have G1cx := aside (G1c.out.drew.on HC.out kk bc)
        clear bc kk
        refine wpAnyH_ready (rs := [12]) (by kernel_rfl) (by simp) ?_
        refine AllReadyH.cons rfl (fun K hK => ?_) AllReadyH.nil
        go_simp
        refine (HB _ tb ((n + cl + 1) + cr) root (tJoin yl s) yr G1cx.out.st.tobj G1cx.out.st.cnt hzr).mono ?_
        rintro e w9 ⟨rfl, bc, kk⟩
        refine hK.out _ _ (nodePrE ((G1cx.out.on HC.out kk bc).st.stay _ _ HN.out)) (fun hHeld => ?_)
        clear hK K 
        have G1cxb := aside (G1cx.out.on HC.out kk bc)
        obtain ⟨s0, s1, s2, z0, z1, z2⟩ := tri G1cxb.out.sm
        clear bc kk
        refine wpAnyH_ready (rs := [13]) (by kernel_rfl) (by simp) ?_
        refine AllReadyH.cons rfl (fun K hK => ?_) AllReadyH.nil
        go_simp
        refine hK.out _ _ (nodePrE ((G1cxb.out.set HC.out (tJoin (tJoin yl s) yr)).st.stay _ _ HN.out)) (fun hHeld => ?_)
        clear hK K 
        have G1cxc := aside (G1cxb.out.set HC.out (tJoin (tJoin yl s) yr))
        clear hHeld s0 s1 s2 z0 z1 z2 G1cxb
        unfold set3 at G1cxc
        refine wpAnyH_done (by kernel_rfl) ?_ _
        generalize ((w9.setCell ⟨w.heap.size + 1, 0, none⟩ (.int .i64 (tJoin (tJoin yl s) yr).n)).setCell ⟨w.heap.size + 1, 1, none⟩ (.int .u64 (tJoin (tJoin yl s) yr).a)).setCell ⟨w.heap.size + 1, 2, none⟩ (.int .u64 (tJoin (tJoin yl s) yr).b) = V2 at *
        obtain ⟨s0, s1, s2, z0, z1, z2⟩ := tri G1cxc.out.sm
        obtain ⟨t0, t1, t2, y0, y1, y2⟩ := tri G1cxc.out.st.res
        have E := aside (set3_end G1cxc.out.st HC.out (tJoin (tJoin yl s) yr))
        unfold set3 at E
        go_wp2
        exact bodyPost_ret (v := .agg #[.int .i64 (tJoin (tJoin yl s) yr).n, .int .u64 (tJoin (tJoin yl s) yr).a, .int .u64 (tJoin (tJoin yl s) yr).b]) (by simp [results, Tryd.results99, go_sem, t0, t1, t2]) rfl ⟨rfl, E.out.1, E.out.2⟩
      · go_simp
        refine (CR'.out _ _ G1c.out.drew.st.tobj G1c.out.drew.st.cnt G1c.out.drew.st.stay).mono ?_
        rintro e w9 ⟨rfl, bc, kk⟩
        refine hK.out _ _ (nodePrE ((G1c.out.drew.on HC.out kk bc).st.stay _ _ HN.out)) (fun hHeld => ?_)
        clear hK K
        have G1cx := aside (G1c.out.drew.on HC.out kk bc)
        clear bc kk
        obtain ⟨s0, s1, s2, z0, z1, z2⟩ := tri G1cx.out.sm
        refine wpAnyH_ready (rs := [1]) (by kernel_rfl) (by simp) ?_
        refine AllReadyH.cons rfl (fun K hK => ?_) AllReadyH.nil
        go_simp
        refine hK.out _ _ (hHeld) (fun hHeld => ?_)
        clear hK K 
        clear s0 s1 s2 z0 z1 z2
        refine wpAnyH_ready (rs := [12]) (by kernel_rfl) (by simp) ?_
        refine AllReadyH.cons rfl (fun K hK => ?_) AllReadyH.nil
        go_simp
        refine (HB _ tb ((n + cl + 1) + cr) root (tJoin yl s) yr G1cx.out.st.tobj G1cx.out.st.cnt hzr).mono ?_
        rintro e w9 ⟨rfl, bc, kk⟩
        refine hK.out _ _ (nodePrE ((G1cx.out.on HC.out kk bc).st.stay _ _ HN.out)) (fun hHeld => ?_)
        clear hK K 
        have G1cxb := aside (G1cx.out.on HC.out kk bc)
        obtain ⟨s0, s1, s2, z0, z1, z2⟩ := tri G1cxb.out.sm
        clear bc kk
        refine wpAnyH_ready (rs := [13]) (by kernel_rfl) (by simp) ?_
        refine AllReadyH.cons rfl (fun K hK => ?_) AllReadyH.nil
        go_simp
        refine hK.out _ _ (nodePrE ((G1cxb.out.set HC.out (tJoin (tJoin yl s) yr)).st.stay _ _ HN.out)) (fun hHeld => ?_)
        clear hK K 
        have G1cxc := aside (G1cxb.out.set HC.out (tJoin (tJoin yl s) yr))
        clear hHeld s0 s1 s2 z0 z1 z2 G1cxb
        unfold set3 at G1cxc
        refine wpAnyH_done (by kernel_rfl) ?_ _
        generalize ((w9.setCell ⟨w.heap.size + 1, 0, none⟩ (.int .i64 (tJoin (tJoin yl s) yr).n)).setCell ⟨w.heap.size + 1, 1, none⟩ (.int .u64 (tJoin (tJoin yl s) yr).a)).setCell ⟨w.heap.size + 1, 2, none⟩ (.int .u64 (tJoin (tJoin yl s) yr).b) = V2 at *
        obtain ⟨s0, s1, s2, z0, z1, z2⟩ := tri G1cxc.out.sm
        obtain ⟨t0, t1, t2, y0, y1, y2⟩ := tri G1cxc.out.st.res
        have E := aside (set3_end G1cxc.out.st HC.out (tJoin (tJoin yl s) yr))
        unfold set3 at E
        go_wp2
        exact bodyPost_ret (v := .agg #[.int .i64 (tJoin (tJoin yl s) yr).n, .int .u64 (tJoin (tJoin yl s) yr).a, .int .u64 (tJoin (tJoin yl s) yr).b]) (by simp [results, Tryd.results99, go_sem, t0, t1, t2]) rfl ⟨rfl, E.out.1, E.out.2⟩
  · have hz1 := hz hz0
    clear hz
    go_enter Tryd.func99, Tryd.ntmps99
    go_wp2_with fail
    refine (CR.out _ F.out.stay).mono ?_
    rintro e w1 ⟨rfl, rfl⟩
    have G := aside (f2stE s F.out)
    go_wp2_with fail
    clear n11 n9 n10 n6 n7 n8 CR
    clear F
    generalize (w.alloc (.cells #[.int .i64 0, .int .u64 0, .int .u64 0] 97)).alloc (.cells #[.int .i64 s.n, .int .u64 s.a, .int .u64 s.b] 97) = V at *
    refine wp_region_held_drew (S := fun X => X.cell? ⟨b, 9, none⟩ = some (.pointer lp)) (by kernel_rfl) (nodePlE (G.out.drew.st.stay _ _ HN.out)) (fun hHeld => ?_)
    refine wpAnyH_take (i := 0) (v := ?_) rfl (by kernel_rfl) (by kernel_rfl) (by kernel_rfl) (fun _ _ _ h => h) (Or.inl ⟨by rfl, ?_⟩) (by assumption) ?_
    rotate_left
    · intro w hSw
      go_simp
      try with_reducible rfl
    simp only [Act.put, List.getElem_toArray, List.getElem_cons_zero, List.setIfInBounds_toArray, List.set_cons_zero, List.set_cons_succ]
    refine wpAnyH_take (i := 1) (v := ?_) rfl (by kernel_rfl) (by kernel_rfl) (by kernel_rfl) (fun _ _ _ h => h) (Or.inl ⟨by rfl, ?_⟩) (by assumption) ?_
    rotate_left
    · intro w hSw
      go_simp
      try with_reducible rfl
    simp only [Act.put, List.getElem_toArray, List.getElem_cons_zero, List.getElem_cons_succ, List.setIfInBounds_toArray, List.set_cons_zero, List.set_cons_succ]
    refine wpAnyH_take (i := 2) (v := ?_) rfl (by kernel_rfl) (by kernel_rfl) (by kernel_rfl) (fun _ _ _ h => h) (Or.inl ⟨by rfl, ?_⟩) (by assumption) ?_
    rotate_left
    · intro w hSw
      go_simp
      try with_reducible rfl
    simp only [Act.put, List.getElem_toArray, List.getElem_cons_zero, List.getElem_cons_succ, List.setIfInBounds_toArray, List.set_cons_zero, List.set_cons_succ]
    refine wpAnyH_take (i := 3) (v := ?_) rfl (by kernel_rfl) (by kernel_rfl) (by kernel_rfl) (fun _ _ _ h => h) (Or.inl ⟨by rfl, ?_⟩) (by assumption) ?_
    rotate_left
    · intro w hSw
      go_simp
      try with_reducible rfl
    simp only [Act.put, List.getElem_toArray, List.getElem_cons_zero, List.getElem_cons_succ, List.setIfInBounds_toArray, List.set_cons_zero, List.set_cons_succ]
    refine wpAnyH_take (i := 4) (v := ?_) rfl (by kernel_rfl) (by kernel_rfl) (by kernel_rfl) (fun _ _ _ h => h) (Or.inl ⟨by rfl, ?_⟩) (by assumption) ?_
    rotate_left
    · intro w hSw
      go_simp
      try with_reducible rfl
    simp only [Act.put, List.getElem_toArray, List.getElem_cons_zero, List.getElem_cons_succ, List.setIfInBounds_toArray, List.set_cons_zero, List.set_cons_succ]
    refine wpAnyH_take (i := 5) (v := ?_) rfl (by kernel_rfl) (by kernel_rfl) (by kernel_rfl) (fun _ _ _ h => h) (Or.inl ⟨by rfl, ?_⟩) (by assumption) ?_
    rotate_left
    · intro w hSw
      go_simp
      try with_reducible rfl
    simp only [Act.put, List.getElem_toArray, List.getElem_cons_zero, List.getElem_cons_succ, List.setIfInBounds_toArray, List.set_cons_zero, List.set_cons_succ]
    refine wpAnyH_take (i := 6) (v := ?_) rfl (by kernel_rfl) (by kernel_rfl) (by kernel_rfl) (fun _ _ _ h => h) (Or.inl ⟨by rfl, ?_⟩) (by assumption) ?_
    rotate_left
    · intro w hSw
      go_simp
      try with_reducible rfl
    simp only [Act.put, List.getElem_toArray, List.getElem_cons_zero, List.getElem_cons_succ, List.setIfInBounds_toArray, List.set_cons_zero, List.set_cons_succ]
    refine wpAnyH_take (i := 7) (v := ?_) rfl (by kernel_rfl) (by kernel_rfl) (by kernel_rfl) (fun _ _ _ h => h) (Or.inl ⟨by rfl, ?_⟩) (by assumption) ?_
    rotate_left
    · intro w hSw
      go_simp
      try with_reducible rfl
    simp only [Act.put, List.getElem_toArray, List.getElem_cons_zero, List.getElem_cons_succ, List.setIfInBounds_toArray, List.set_cons_zero, List.set_cons_succ]
    refine wpAnyH_ready (rs := [8, 9]) (by kernel_rfl) (by simp) ?_
    refine AllReadyH.cons rfl (fun K hK => ?_) (AllReadyH.cons rfl (fun K hK => ?_) AllReadyH.nil)
    · go_simp
      refine (CL'.out _ _ G.out.drew.st.tobj G.out.drew.st.cnt G.out.drew.st.stay).mono ?_
      rintro e w9 ⟨rfl, bc, kk⟩
      refine hK.out _ _ (nodePlE ((G.out.drew.on HC.out kk bc).st.stay _ _ HN.out)) (fun hHeld => ?_)
      clear hK K
      have G1 := aside (G.out.drew.on HC.out kk bc)
      clear bc kk
      obtain ⟨s0, s1, s2, z0, z1, z2⟩ := tri G1.out.sm
      refine wpAnyH_ready (rs := [9]) (by kernel_rfl) (by simp) ?_
      refine AllReadyH.cons rfl (fun K hK => ?_) AllReadyH.nil
      go_simp
      refine hK.out _ _ (hHeld) (fun hHeld => ?_)
      clear hK K 
      clear s0 s1 s2 z0 z1 z2
      refine wpAnyH_ready (rs := [10]) (by kernel_rfl) (by simp) ?_
      refine AllReadyH.cons rfl (fun K hK => ?_) AllReadyH.nil
      go_simp
      refine (HB _ tb (n + cl) root yl s G1.out.st.tobj G1.out.st.cnt hzl).mono ?_
      rintro e w9 ⟨rfl, bc, kk⟩
      refine hK.out _ _ (nodePlE ((G1.out.on HC.out kk bc).st.stay _ _ HN.out)) (fun hHeld => ?_)
      clear hK K 
      have G1b := aside (G1.out.on HC.out kk bc)
      obtain ⟨s0, s1, s2, z0, z1, z2⟩ := tri G1b.out.sm
      clear bc kk
      refine wpAnyH_ready (rs := [11]) (by kernel_rfl) (by simp) ?_
      refine AllReadyH.cons rfl (fun K hK => ?_) AllReadyH.nil
      go_simp
      refine hK.out _ _ (nodePlE ((G1b.out.set HC.out (tJoin yl s)).st.stay _ _ HN.out)) (fun hHeld => ?_)
      clear hK K 
      have G1c := aside (G1b.out.set HC.out (tJoin yl s))
      clear hHeld s0 s1 s2 z0 z1 z2 G1b
      unfold set3 at G1c
      refine wpAnyH_done (by kernel_rfl) ?_ _
      generalize ((w9.setCell ⟨w.heap.size + 1, 0, none⟩ (.int .i64 (tJoin yl s).n)).setCell ⟨w.heap.size + 1, 1, none⟩ (.int .u64 (tJoin yl s).a)).setCell ⟨w.heap.size + 1, 2, none⟩ (.int .u64 (tJoin yl s).b) = V1 at *
      go_wp2_with fail
      refine wp_region_held_drew (S := fun X => X.cell? ⟨b, 10, none⟩ = some (.pointer rp)) (by kernel_rfl) (nodePrE (G1c.out.drew.st.stay _ _ HN.out)) (fun hHeld => ?_)
      refine wpAnyH_take (i := 0) (v := ?_) rfl (by kernel_rfl) (by kernel_rfl) (by kernel_rfl) (fun _ _ _ h => h) (Or.inl ⟨by rfl, ?_⟩) (by assumption) ?_
      rotate_left
      · intro w hSw
        go_simp
        try with_reducible rfl
      simp only [Act.put, List.getElem_toArray, List.getElem_cons_zero, List.setIfInBounds_toArray, List.set_cons_zero, List.set_cons_succ]
      refine wpAnyH_take (i := 2) (v := ?_) rfl (by kernel_rfl) (by kernel_rfl) (by kernel_rfl) (fun _ _ _ h => h) (Or.inl ⟨by rfl, ?_⟩) (by assumption) ?_
      rotate_left
      · intro w hSw
        go_simp
        try with_reducible rfl
      simp only [Act.put, List.getElem_toArray, List.getElem_cons_zero, List.getElem_cons_succ, List.setIfInBounds_toArray, List.set_cons_zero, List.set_cons_succ]
      refine wpAnyH_take (i := 3) (v := ?_) rfl (by kernel_rfl) (by kernel_rfl) (by kernel_rfl) (fun _ _ _ h => h) (Or.inl ⟨by rfl, ?_⟩) (by assumption) ?_
      rotate_left
      · intro w hSw
        go_simp
        try with_reducible rfl
      simp only [Act.put, List.getElem_toArray, List.getElem_cons_zero, List.getElem_cons_succ, List.setIfInBounds_toArray, List.set_cons_zero, List.set_cons_succ]
      refine wpAnyH_take (i := 4) (v := ?_) rfl (by kernel_rfl) (by kernel_rfl) (by kernel_rfl) (fun _ _ _ h => h) (Or.inl ⟨by rfl, ?_⟩) (by assumption) ?_
      rotate_left
      · intro w hSw
        go_simp
        try with_reducible rfl
      simp only [Act.put, List.getElem_toArray, List.getElem_cons_zero, List.getElem_cons_succ, List.setIfInBounds_toArray, List.set_cons_zero, List.set_cons_succ]
      refine wpAnyH_take (i := 5) (v := ?_) rfl (by kernel_rfl) (by kernel_rfl) (by kernel_rfl) (fun _ _ _ h => h) (Or.inl ⟨by rfl, ?_⟩) (by assumption) ?_
      rotate_left
      · intro w hSw
        go_simp
        try with_reducible rfl
      simp only [Act.put, List.getElem_toArray, List.getElem_cons_zero, List.getElem_cons_succ, List.setIfInBounds_toArray, List.set_cons_zero, List.set_cons_succ]
      refine wpAnyH_take (i := 6) (v := ?_) rfl (by kernel_rfl) (by kernel_rfl) (by kernel_rfl) (fun _ _ _ h => h) (Or.inl ⟨by rfl, ?_⟩) (by assumption) ?_
      rotate_left
      · intro w hSw
        go_simp
        try with_reducible rfl
      simp only [Act.put, List.getElem_toArray, List.getElem_cons_zero, List.getElem_cons_succ, List.setIfInBounds_toArray, List.set_cons_zero, List.set_cons_succ]
      refine wpAnyH_take (i := 7) (v := ?_) rfl (by kernel_rfl) (by kernel_rfl) (by kernel_rfl) (fun _ _ _ h => h) (Or.inl ⟨by rfl, ?_⟩) (by assumption) ?_
      rotate_left
      · intro w hSw
        go_simp
        try with_reducible rfl
      simp only [Act.put, List.getElem_toArray, List.getElem_cons_zero, List.getElem_cons_succ, List.setIfInBounds_toArray, List.set_cons_zero, List.set_cons_succ]
      refine wpAnyH_take (i := 8) (v := ?_) rfl (by kernel_rfl) (by kernel_rfl) (by kernel_rfl) (fun _ _ _ h => h) (Or.inl ⟨by rfl, ?_⟩) (by assumption) ?_
      rotate_left
      · intro w hSw
        go_simp
        try with_reducible rfl
      simp only [Act.put, List.getElem_toArray, List.getElem_cons_zero, List.getElem_cons_succ, List.setIfInBounds_toArray, List.set_cons_zero, List.set_cons_succ]
      refine wpAnyH_take (i := 9) (v := ?_) rfl (by kernel_rfl) (by kernel_rfl) (by kernel_rfl) (fun _ _ _ h => h) (Or.inl ⟨by rfl, ?_⟩) (by assumption) ?_
      rotate_left
      · intro w hSw
        go_simp
        try with_reducible rfl
      simp only [Act.put, List.getElem_toArray, List.getElem_cons_zero, List.getElem_cons_succ, List.setIfInBounds_toArray, List.set_cons_zero, List.set_cons_succ]
      refine wpAnyH_take (i := 10) (v := ?_) rfl (by kernel_rfl) (by kernel_rfl) (by kernel_rfl) (fun _ _ _ h => h) (Or.inl ⟨by rfl, ?_⟩) (by assumption) ?_
      rotate_left
      · intro w hSw
        go_simp
        try with_reducible rfl
      simp only [Act.put, List.getElem_toArray, List.getElem_cons_zero, List.getElem_cons_succ, List.setIfInBounds_toArray, List.set_cons_zero, List.set_cons_succ]
      refine wpAnyH_ready (rs := [1, 11]) (by kernel_rfl) (by simp) ?_
      refine AllReadyH.cons rfl (fun K hK => ?_) (AllReadyH.cons rfl (fun K hK => ?_) AllReadyH.nil)
      · obtain ⟨s0, s1, s2, z0, z1, z2⟩ := tri G1c.out.drew.sm
        go_simp
        refine hK.out _ _ hHeld (fun hHeld => ?_)
        clear hK K s0 s1 s2 z0 z1 z2
        refine wpAnyH_ready (rs := [11]) (by kernel_rfl) (by simp) ?_
        refine AllReadyH.cons rfl (fun K hK => ?_) AllReadyH.nil
        go_simp
        refine (CR'.out _ _ G1c.out.drew.st.tobj G1c.out.drew.st.cnt G1c.out.drew.st.stay).mono ?_
        rintro e w9 ⟨rfl, bc, kk⟩
        refine hK.out _ _ (nodePrE ((G1c.out.drew.on HC.out kk bc).st.stay _ _ HN.out)) (fun hHeld => ?_)
        clear hK K 
        have G1cx := aside (G1c.out.drew.on HC.out kk bc)
        clear bc kk
        refine wpAnyH_ready (rs := [12]) (by kernel_rfl) (by simp) ?_
        refine AllReadyH.cons rfl (fun K hK => ?_) AllReadyH.nil
        go_simp
        refine (HB _ tb ((n + cl + 1) + cr) root (tJoin yl s) yr G1cx.out.st.tobj G1cx.out.st.cnt hzr).mono ?_
        rintro e w9 ⟨rfl, bc, kk⟩
        refine hK.out _ _ (nodePrE ((G1cx.out.on HC.out kk bc).st.stay _ _ HN.out)) (fun hHeld => ?_)
        clear hK K 
        have G1cxb := aside (G1cx.out.on HC.out kk bc)
        obtain ⟨s0, s1, s2, z0, z1, z2⟩ := tri G1cxb.out.sm
        clear bc kk
        refine wpAnyH_ready (rs := [13]) (by kernel_rfl) (by simp) ?_
        refine AllReadyH.cons rfl (fun K hK => ?_) AllReadyH.nil
        go_simp
        refine hK.out _ _ (nodePrE ((G1cxb.out.set HC.out (tJoin (tJoin yl s) yr)).st.stay _ _ HN.out)) (fun hHeld => ?_)
        clear hK K 
        have G1cxc := aside (G1cxb.out.set HC.out (tJoin (tJoin yl s) yr))
        clear hHeld s0 s1 s2 z0 z1 z2 G1cxb
        unfold set3 at G1cxc
        refine wpAnyH_done (by kernel_rfl) ?_ _
        generalize ((w9.setCell ⟨w.heap.size + 1, 0, none⟩ (.int .i64 (tJoin (tJoin yl s) yr).n)).setCell ⟨w.heap.size + 1, 1, none⟩ (.int .u64 (tJoin (tJoin yl s) yr).a)).setCell ⟨w.heap.size + 1, 2, none⟩ (.int .u64 (tJoin (tJoin yl s) yr).b) = V2 at *
        obtain ⟨s0, s1, s2, z0, z1, z2⟩ := tri G1cxc.out.sm
        obtain ⟨t0, t1, t2, y0, y1, y2⟩ := tri G1cxc.out.st.res
        have E := aside (set3_end G1cxc.out.st HC.out (tJoin (tJoin yl s) yr))
        unfold set3 at E
        go_wp2
        exact bodyPost_ret (v := .agg #[.int .i64 (tJoin (tJoin yl s) yr).n, .int .u64 (tJoin (tJoin yl s) yr).a, .int .u64 (tJoin (tJoin yl s) yr).b]) (by simp [results, Tryd.results99, go_sem, t0, t1, t2]) rfl ⟨rfl, E.out.1, E.out.2⟩
      · go_simp
        refine (CR'.out _ _ G1c.out.drew.st.tobj G1c.out.drew.st.cnt G1c.out.drew.st.stay).mono ?_
        rintro e w9 ⟨rfl, bc, kk⟩
        refine hK.out _ _ (nodePrE ((G1c.out.drew.on HC.out kk bc).st.stay _ _ HN.out)) (fun hHeld => ?_)
        clear hK K
        have G1cx := aside (G1c.out.drew.on HC.out kk bc)
        clear bc kk
        obtain ⟨s0, s1, s2, z0, z1, z2⟩ := tri G1cx.out.sm
        refine wpAnyH_ready (rs := [1]) (by kernel_rfl) (by simp) ?_
        refine AllReadyH.cons rfl (fun K hK => ?_) AllReadyH.nil
        go_simp
        refine hK.out _ _ (hHeld) (fun hHeld => ?_)
        clear hK K 
        clear s0 s1 s2 z0 z1 z2
        refine wpAnyH_ready (rs := [12]) (by kernel_rfl) (by simp) ?_
        refine AllReadyH.cons rfl (fun K hK => ?_) AllReadyH.nil
        go_simp
        refine (HB _ tb ((n + cl + 1) + cr) root (tJoin yl s) yr G1cx.out.st.tobj G1cx.out.st.cnt hzr).mono ?_
        rintro e w9 ⟨rfl, bc, kk⟩
        refine hK.out _ _ (nodePrE ((G1cx.out.on HC.out kk bc).st.stay _ _ HN.out)) (fun hHeld => ?_)
        clear hK K 
        have G1cxb := aside (G1cx.out.on HC.out kk bc)
        obtain ⟨s0, s1, s2, z0, z1, z2⟩ := tri G1cxb.out.sm
        clear bc kk
        refine wpAnyH_ready (rs := [13]) (by kernel_rfl) (by simp) ?_
        refine AllReadyH.cons rfl (fun K hK => ?_) AllReadyH.nil
        go_simp
        refine hK.out _ _ (nodePrE ((G1cxb.out.set HC.out (tJoin (tJoin yl s) yr)).st.stay _ _ HN.out)) (fun hHeld => ?_)
        clear hK K 
        have G1cxc := aside (G1cxb.out.set HC.out (tJoin (tJoin yl s) yr))
        clear hHeld s0 s1 s2 z0 z1 z2 G1cxb
        unfold set3 at G1cxc
        refine wpAnyH_done (by kernel_rfl) ?_ _
        generalize ((w9.setCell ⟨w.heap.size + 1, 0, none⟩ (.int .i64 (tJoin (tJoin yl s) yr).n)).setCell ⟨w.heap.size + 1, 1, none⟩ (.int .u64 (tJoin (tJoin yl s) yr).a)).setCell ⟨w.heap.size + 1, 2, none⟩ (.int .u64 (tJoin (tJoin yl s) yr).b) = V2 at *
        obtain ⟨s0, s1, s2, z0, z1, z2⟩ := tri G1cxc.out.sm
        obtain ⟨t0, t1, t2, y0, y1, y2⟩ := tri G1cxc.out.st.res
        have E := aside (set3_end G1cxc.out.st HC.out (tJoin (tJoin yl s) yr))
        unfold set3 at E
        go_wp2
        exact bodyPost_ret (v := .agg #[.int .i64 (tJoin (tJoin yl s) yr).n, .int .u64 (tJoin (tJoin yl s) yr).a, .int .u64 (tJoin (tJoin yl s) yr).b]) (by simp [results, Tryd.results99, go_sem, t0, t1, t2]) rfl ⟨rfl, E.out.1, E.out.2⟩
    · obtain ⟨s0, s1, s2, z0, z1, z2⟩ := tri G.out.drew.sm
      go_simp
      refine hK.out _ _ hHeld (fun hHeld => ?_)
      clear hK K s0 s1 s2 z0 z1 z2
      refine wpAnyH_ready (rs := [8]) (by kernel_rfl) (by simp) ?_
      refine AllReadyH.cons rfl (fun K hK => ?_) AllReadyH.nil
      go_simp
      refine (CL'.out _ _ G.out.drew.st.tobj G.out.drew.st.cnt G.out.drew.st.stay).mono ?_
      rintro e w9 ⟨rfl, bc, kk⟩
      refine hK.out _ _ (nodePlE ((G.out.drew.on HC.out kk bc).st.stay _ _ HN.out)) (fun hHeld => ?_)
      clear hK K 
      have G1 := aside (G.out.drew.on HC.out kk bc)
      clear bc kk
      refine wpAnyH_ready (rs := [10]) (by kernel_rfl) (by simp) ?_
      refine AllReadyH.cons rfl (fun K hK => ?_) AllReadyH.nil
      go_simp
      refine (HB _ tb (n + cl) root yl s G1.out.st.tobj G1.out.st.cnt hzl).mono ?_
      rintro e w9 ⟨rfl, bc, kk⟩
      refine hK.out _ _ (nodePlE ((G1.out.on HC.out kk bc).st.stay _ _ HN.out)) (fun hHeld => ?_)
      clear hK K 
      have G1b := aside (G1.out.on HC.out kk bc)
      obtain ⟨s0, s1, s2, z0, z1, z2⟩ := tri G1b.out.sm
      clear bc kk
      refine wpAnyH_ready (rs := [11]) (by kernel_rfl) (by simp) ?_
      refine AllReadyH.cons rfl (fun K hK => ?_) AllReadyH.nil
      go_simp
      refine hK.out _ _ (nodePlE ((G1b.out.set HC.out (tJoin yl s)).st.stay _ _ HN.out)) (fun hHeld => ?_)
      clear hK K 
      have G1c := aside (G1b.out.set HC.out (tJoin yl s))
      clear hHeld s0 s1 s2 z0 z1 z2 G1b
      unfold set3 at G1c
      refine wpAnyH_done (by kernel_rfl) ?_ _
      generalize ((w9.setCell ⟨w.heap.size + 1, 0, none⟩ (.int .i64 (tJoin yl s).n)).setCell ⟨w.heap.size + 1, 1, none⟩ (.int .u64 (tJoin yl s).a)).setCell ⟨w.heap.size + 1, 2, none⟩ (.int .u64 (tJoin yl s).b) = V1 at *
      go_wp2_with fail
      refine wp_region_held_drew (S := fun X => X.cell? ⟨b, 10, none⟩ = some (.pointer rp)) (by kernel_rfl) (nodePrE (G1c.out.drew.st.stay _ _ HN.out)) (fun hHeld => ?_)
      refine wpAnyH_take (i := 0) (v := ?_) rfl (by kernel_rfl) (by kernel_rfl) (by kernel_rfl) (fun _ _ _ h => h) (Or.inl ⟨by rfl, ?_⟩) (by assumption) ?_
      rotate_left
      · intro w hSw
        go_simp
        try with_reducible rfl
      simp only [Act.put, List.getElem_toArray, List.getElem_cons_zero, List.setIfInBounds_toArray, List.set_cons_zero, List.set_cons_succ]
      refine wpAnyH_take (i := 2) (v := ?_) rfl (by kernel_rfl) (by kernel_rfl) (by kernel_rfl) (fun _ _ _ h => h) (Or.inl ⟨by rfl, ?_⟩) (by assumption) ?_
      rotate_left
      · intro w hSw
        go_simp
        try with_reducible rfl
      simp only [Act.put, List.getElem_toArray, List.getElem_cons_zero, List.getElem_cons_succ, List.setIfInBounds_toArray, List.set_cons_zero, List.set_cons_succ]
      refine wpAnyH_take (i := 3) (v := ?_) rfl (by kernel_rfl) (by kernel_rfl) (by kernel_rfl) (fun _ _ _ h => h) (Or.inl ⟨by rfl, ?_⟩) (by assumption) ?_
      rotate_left
      · intro w hSw
        go_simp
        try with_reducible rfl
      simp only [Act.put, List.getElem_toArray, List.getElem_cons_zero, List.getElem_cons_succ, List.setIfInBounds_toArray, List.set_cons_zero, List.set_cons_succ]
      refine wpAnyH_take (i := 4) (v := ?_) rfl (by kernel_rfl) (by kernel_rfl) (by kernel_rfl) (fun _ _ _ h => h) (Or.inl ⟨by rfl, ?_⟩) (by assumption) ?_
      rotate_left
      · intro w hSw
        go_simp
        try with_reducible rfl
      simp only [Act.put, List.getElem_toArray, List.getElem_cons_zero, List.getElem_cons_succ, List.setIfInBounds_toArray, List.set_cons_zero, List.set_cons_succ]
      refine wpAnyH_take (i := 5) (v := ?_) rfl (by kernel_rfl) (by kernel_rfl) (by kernel_rfl) (fun _ _ _ h => h) (Or.inl ⟨by rfl, ?_⟩) (by assumption) ?_
      rotate_left
      · intro w hSw
        go_simp
        try with_reducible rfl
      simp only [Act.put, List.getElem_toArray, List.getElem_cons_zero, List.getElem_cons_succ, List.setIfInBounds_toArray, List.set_cons_zero, List.set_cons_succ]
      refine wpAnyH_take (i := 6) (v := ?_) rfl (by kernel_rfl) (by kernel_rfl) (by kernel_rfl) (fun _ _ _ h => h) (Or.inl ⟨by rfl, ?_⟩) (by assumption) ?_
      rotate_left
      · intro w hSw
        go_simp
        try with_reducible rfl
      simp only [Act.put, List.getElem_toArray, List.getElem_cons_zero, List.getElem_cons_succ, List.setIfInBounds_toArray, List.set_cons_zero, List.set_cons_succ]
      refine wpAnyH_take (i := 7) (v := ?_) rfl (by kernel_rfl) (by kernel_rfl) (by kernel_rfl) (fun _ _ _ h => h) (Or.inl ⟨by rfl, ?_⟩) (by assumption) ?_
      rotate_left
      · intro w hSw
        go_simp
        try with_reducible rfl
      simp only [Act.put, List.getElem_toArray, List.getElem_cons_zero, List.getElem_cons_succ, List.setIfInBounds_toArray, List.set_cons_zero, List.set_cons_succ]
      refine wpAnyH_take (i := 8) (v := ?_) rfl (by kernel_rfl) (by kernel_rfl) (by kernel_rfl) (fun _ _ _ h => h) (Or.inl ⟨by rfl, ?_⟩) (by assumption) ?_
      rotate_left
      · intro w hSw
        go_simp
        try with_reducible rfl
      simp only [Act.put, List.getElem_toArray, List.getElem_cons_zero, List.getElem_cons_succ, List.setIfInBounds_toArray, List.set_cons_zero, List.set_cons_succ]
      refine wpAnyH_take (i := 9) (v := ?_) rfl (by kernel_rfl) (by kernel_rfl) (by kernel_rfl) (fun _ _ _ h => h) (Or.inl ⟨by rfl, ?_⟩) (by assumption) ?_
      rotate_left
      · intro w hSw
        go_simp
        try with_reducible rfl
      simp only [Act.put, List.getElem_toArray, List.getElem_cons_zero, List.getElem_cons_succ, List.setIfInBounds_toArray, List.set_cons_zero, List.set_cons_succ]
      refine wpAnyH_take (i := 10) (v := ?_) rfl (by kernel_rfl) (by kernel_rfl) (by kernel_rfl) (fun _ _ _ h => h) (Or.inl ⟨by rfl, ?_⟩) (by assumption) ?_
      rotate_left
      · intro w hSw
        go_simp
        try with_reducible rfl
      simp only [Act.put, List.getElem_toArray, List.getElem_cons_zero, List.getElem_cons_succ, List.setIfInBounds_toArray, List.set_cons_zero, List.set_cons_succ]
      refine wpAnyH_ready (rs := [1, 11]) (by kernel_rfl) (by simp) ?_
      refine AllReadyH.cons rfl (fun K hK => ?_) (AllReadyH.cons rfl (fun K hK => ?_) AllReadyH.nil)
      · obtain ⟨s0, s1, s2, z0, z1, z2⟩ := tri G1c.out.drew.sm
        go_simp
        refine hK.out _ _ hHeld (fun hHeld => ?_)
        clear hK K s0 s1 s2 z0 z1 z2
        refine wpAnyH_ready (rs := [11]) (by kernel_rfl) (by simp) ?_
        refine AllReadyH.cons rfl (fun K hK => ?_) AllReadyH.nil
        go_simp
        refine (CR'.out _ _ G1c.out.drew.st.tobj G1c.out.drew.st.cnt G1c.out.drew.st.stay).mono ?_
        rintro e w9 ⟨rfl, bc, kk⟩
        refine hK.out _ _ (nodePrE ((G1c.out.drew.on HC.out kk bc).st.stay _ _ HN.out)) (fun hHeld => ?_)
        clear hK K 
        have G1cx := aside (G1c.out.drew.on HC.out kk bc)
        clear bc kk
        refine wpAnyH_ready (rs := [12]) (by kernel_rfl) (by simp) ?_
        refine AllReadyH.cons rfl (fun K hK => ?_) AllReadyH.nil
        go_simp
        refine (HB _ tb ((n + cl + 1) + cr) root (tJoin yl s) yr G1cx.out.st.tobj G1cx.out.st.cnt hzr).mono ?_
        rintro e w9 ⟨rfl, bc, kk⟩
        refine hK.out _ _ (nodePrE ((G1cx.out.on HC.out kk bc).st.stay _ _ HN.out)) (fun hHeld => ?_)
        clear hK K 
        have G1cxb := aside (G1cx.out.on HC.out kk bc)
        obtain ⟨s0, s1, s2, z0, z1, z2⟩ := tri G1cxb.out.sm
        clear bc kk
        refine wpAnyH_ready (rs := [13]) (by kernel_rfl) (by simp) ?_
        refine AllReadyH.cons rfl (fun K hK => ?_) AllReadyH.nil
        go_simp
        refine hK.out _ _ (nodePrE ((G1cxb.out.set HC.out (tJoin (tJoin yl s) yr)).st.stay _ _ HN.out)) (fun hHeld => ?_)
        clear hK K 
        have G1cxc := aside (G1cxb.out.set HC.out (tJoin (tJoin yl s) yr))
        clear hHeld s0 s1 s2 z0 z1 z2 G1cxb
        unfold set3 at G1cxc
        refine wpAnyH_done (by kernel_rfl) ?_ _
        generalize ((w9.setCell ⟨w.heap.size + 1, 0, none⟩ (.int .i64 (tJoin (tJoin yl s) yr).n)).setCell ⟨w.heap.size + 1, 1, none⟩ (.int .u64 (tJoin (tJoin yl s) yr).a)).setCell ⟨w.heap.size + 1, 2, none⟩ (.int .u64 (tJoin (tJoin yl s) yr).b) = V2 at *
        obtain ⟨s0, s1, s2, z0, z1, z2⟩ := tri G1cxc.out.sm
        obtain ⟨t0, t1, t2, y0, y1, y2⟩ := tri G1cxc.out.st.res
        have E := aside (set3_end G1cxc.out.st HC.out (tJoin (tJoin yl s) yr))
        unfold set3 at E
        go_wp2
        exact bodyPost_ret (v := .agg #[.int .i64 (tJoin (tJoin yl s) yr).n, .int .u64 (tJoin (tJoin yl s) yr).a, .int .u64 (tJoin (tJoin yl s) yr).b]) (by simp [results, Tryd.results99, go_sem, t0, t1, t2]) rfl ⟨rfl, E.out.1, E.out.2⟩
      · go_simp
        refine (CR'.out _ _ G1c.out.drew.st.tobj G1c.out.drew.st.cnt G1c.out.drew.st.stay).mono ?_
        rintro e w9 ⟨rfl, bc, kk⟩
        refine hK.out _ _ (nodePrE ((G1c.out.drew.on HC.out kk bc).st.stay _ _ HN.out)) (fun hHeld => ?_)
        clear hK K
        have G1cx := aside (G1c.out.drew.on HC.out kk bc)
        clear bc kk
        obtain ⟨s0, s1, s2, z0, z1, z2⟩ := tri G1cx.out.sm
        refine wpAnyH_ready (rs := [1]) (by kernel_rfl) (by simp) ?_
        refine AllReadyH.cons rfl (fun K hK => ?_) AllReadyH.nil
        go_simp
        refine hK.out _ _ (hHeld) (fun hHeld => ?_)
        clear hK K 
        clear s0 s1 s2 z0 z1 z2
        refine wpAnyH_ready (rs := [12]) (by kernel_rfl) (by simp) ?_
        refine AllReadyH.cons rfl (fun K hK => ?_) AllReadyH.nil
        go_simp
        refine (HB _ tb ((n + cl + 1) + cr) root (tJoin yl s) yr G1cx.out.st.tobj G1cx.out.st.cnt hzr).mono ?_
        rintro e w9 ⟨rfl, bc, kk⟩
        refine hK.out _ _ (nodePrE ((G1cx.out.on HC.out kk bc).st.stay _ _ HN.out)) (fun hHeld => ?_)
        clear hK K 
        have G1cxb := aside (G1cx.out.on HC.out kk bc)
        obtain ⟨s0, s1, s2, z0, z1, z2⟩ := tri G1cxb.out.sm
        clear bc kk
        refine wpAnyH_ready (rs := [13]) (by kernel_rfl) (by simp) ?_
        refine AllReadyH.cons rfl (fun K hK => ?_) AllReadyH.nil
        go_simp
        refine hK.out _ _ (nodePrE ((G1cxb.out.set HC.out (tJoin (tJoin yl s) yr)).st.stay _ _ HN.out)) (fun hHeld => ?_)
        clear hK K 
        have G1cxc := aside (G1cxb.out.set HC.out (tJoin (tJoin yl s) yr))
        clear hHeld s0 s1 s2 z0 z1 z2 G1cxb
        unfold set3 at G1cxc
        refine wpAnyH_done (by kernel_rfl) ?_ _
        generalize ((w9.setCell ⟨w.heap.size + 1, 0, none⟩ (.int .i64 (tJoin (tJoin yl s) yr).n)).setCell ⟨w.heap.size + 1, 1, none⟩ (.int .u64 (tJoin (tJoin yl s) yr).a)).setCell ⟨w.heap.size + 1, 2, none⟩ (.int .u64 (tJoin (tJoin yl s) yr).b) = V2 at *
        obtain ⟨s0, s1, s2, z0, z1, z2⟩ := tri G1cxc.out.sm
        obtain ⟨t0, t1, t2, y0, y1, y2⟩ := tri G1cxc.out.st.res
        have E := aside (set3_end G1cxc.out.st HC.out (tJoin (tJoin yl s) yr))
        unfold set3 at E
        go_wp2
        exact bodyPost_ret (v := .agg #[.int .i64 (tJoin (tJoin yl s) yr).n, .int .u64 (tJoin (tJoin yl s) yr).a, .int .u64 (tJoin (tJoin yl s) yr).b]) (by simp [results, Tryd.results99, go_sem, t0, t1, t2]) rfl ⟨rfl, E.out.1, E.out.2⟩
end Go.Proofs.YtlbkcndmljlnmaaDoor

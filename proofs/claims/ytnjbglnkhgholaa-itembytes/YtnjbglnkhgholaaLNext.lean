/-
  The law ItemNext, walked: it returns true at every clock, node and version.
-/
import Derived.Test.YtnjbglnkhgholaaINext
import Derived.Test.YtnjbglnkhgholaaLOrder
import Derived.Deep.RegionHeld3
namespace Go.Proofs.Ytnjbglnkhgholaa
open Go.RowKit

theorem cell_on {W W' : World} {p : Addr} {v : Value} (h : W.cell? p = some v) (b : Below W.heap.size W W') : W'.cell? p = some v :=
  (b.cell (World.block_lt_of_cell? W _ h)).trans h

/-- Two cells of a block, in the world in which it was laid down. -/
theorem two_new (w : World) (a b : Value) (T : TypeId) : (w.alloc (.cells #[a, b] T)).cell? ⟨w.heap.size, 0, none⟩ = some a ∧ (w.alloc (.cells #[a, b] T)).cell? ⟨w.heap.size, 1, none⟩ = some b :=
  ⟨by rw [cell_of_row _ _ 0 _ _ _ (heap_alloc_new w _)]; rfl, by rw [cell_of_row _ _ 1 _ _ _ (heap_alloc_new w _)]; rfl⟩

theorem next_keep {w W W' : World} {i j l : Nat} {c k cn nn : Int} (h : Below w.heap.size w W ∧ W.cell? ⟨i, 0, none⟩ = some (.int .i64 c) ∧ W.cell? ⟨i, 1, none⟩ = some (.int .i64 k) ∧ W.cell? ⟨j, 0, none⟩ = some (.int .i64 cn) ∧ W.cell? ⟨j, 1, none⟩ = some (.int .i64 nn) ∧ W.cell? ⟨l, 0, none⟩ = some (.int .i64 cn) ∧ W.cell? ⟨l, 1, none⟩ = some (.int .i64 nn)) (bb : Below W.heap.size W W') :
    Below w.heap.size w W' ∧ W'.cell? ⟨i, 0, none⟩ = some (.int .i64 c) ∧ W'.cell? ⟨i, 1, none⟩ = some (.int .i64 k) ∧ W'.cell? ⟨j, 0, none⟩ = some (.int .i64 cn) ∧ W'.cell? ⟨j, 1, none⟩ = some (.int .i64 nn) ∧ W'.cell? ⟨l, 0, none⟩ = some (.int .i64 cn) ∧ W'.cell? ⟨l, 1, none⟩ = some (.int .i64 nn) := by
  obtain ⟨h, h0, h1, h2, h3, h4, h5⟩ := h
  exact ⟨bthen h bb, cell_on h0 bb, cell_on h1 bb, cell_on h2 bb, cell_on h3 bb, cell_on h4 bb, cell_on h5 bb⟩

set_option maxRecDepth 100000 in
set_option maxHeartbeats 3200000 in
theorem next_bad (clock node c k cn nn en q : Int) (w : World) (hN : Vs.nx clock node = (cn, nn, en)) (hV : Vs.chk c k = q) (hc : cn = 0 ∧ nn = 0 ∧ (en = 30 ∨ en = 33)) :
    Calls Try.prog 5 #[.int .i64 clock, .int .i64 node, .agg #[.int .i64 c, .int .i64 k]] w fun e w' => e = .returned (.bool true) ∧ Below w.heap.size w w' := by
  have C1 := aside (fun w => next_at hN w)
  have C2 := aside (fun w => nextRef_at hN w)
  have C3 := aside (fun w => checkVersion_at hV w)
  have C4 := aside (fun w => checkVersionRef_at hV w)
  obtain ⟨hc1, hc2, hE⟩ := hc
  have E1 := aside hc1
  have E2 := aside hc2
  have he : (en != 0) = true := by rcases hE with rfl | rfl <;> rfl
  clear hE hc1 hc2
  clear hN hV
  go_enter Try.func5, Try.ntmps5
  go_wp2_with fail
  refine (C1.out _).mono ?_
  rintro e w1 ⟨rfl, b1⟩
  have v1 := (two_new w _ _ 24).imp (cell_on · b1) (cell_on · b1)
  have b01 := bthen (bnew w _) b1
  clear b1
  go_wp2_with fail
  refine (C2.out _).mono ?_
  rintro e w2 ⟨rfl, b2⟩
  have v2 := v1.imp (cell_on · (bthen (bnew w1 _) b2)) (cell_on · (bthen (bnew w1 _) b2))
  have n2 := (two_new w1 _ _ 24).imp (cell_on · b2) (cell_on · b2)
  have b02 := bthen b01 (bthen (bnew w1 _) b2)
  have m2 := two_new w2 (.int .i64 cn) (.int .i64 nn) 24
  have bN := bnew w2 (.cells #[.int .i64 cn, .int .i64 nn] 24)
  have S0 : Hid (Below w.heap.size w (w2.alloc (.cells #[.int .i64 cn, .int .i64 nn] 24)).drew ∧ (w2.alloc (.cells #[.int .i64 cn, .int .i64 nn] 24)).drew.cell? ⟨w.heap.size, 0, none⟩ = some (.int .i64 c) ∧ (w2.alloc (.cells #[.int .i64 cn, .int .i64 nn] 24)).drew.cell? ⟨w.heap.size, 1, none⟩ = some (.int .i64 k) ∧ (w2.alloc (.cells #[.int .i64 cn, .int .i64 nn] 24)).drew.cell? ⟨w1.heap.size, 0, none⟩ = some (.int .i64 cn) ∧ (w2.alloc (.cells #[.int .i64 cn, .int .i64 nn] 24)).drew.cell? ⟨w1.heap.size, 1, none⟩ = some (.int .i64 nn) ∧ (w2.alloc (.cells #[.int .i64 cn, .int .i64 nn] 24)).drew.cell? ⟨w2.heap.size, 0, none⟩ = some (.int .i64 cn) ∧ (w2.alloc (.cells #[.int .i64 cn, .int .i64 nn] 24)).drew.cell? ⟨w2.heap.size, 1, none⟩ = some (.int .i64 nn)) :=
    ⟨(bthen b02 bN).drew, cell_on v2.1 bN.drew, cell_on v2.2 bN.drew, cell_on n2.1 bN.drew, cell_on n2.2 bN.drew, m2.1, m2.2⟩
  obtain ⟨o1, o2⟩ := n2
  obtain ⟨o3, o4⟩ := v2
  replace o1 := cell_on o1 bN
  replace o2 := cell_on o2 bN
  replace o3 := cell_on o3 bN
  replace o4 := cell_on o4 bN
  obtain ⟨o5, o6⟩ := m2
  clear v1 b01 b2 b02 bN
  go_wp2_with fail
  generalize w2.alloc (.cells #[.int .i64 cn, .int .i64 nn] 24) = W0 at *
  go_region_held3 (fun W => Below w.heap.size w W ∧ W.cell? ⟨w.heap.size, 0, none⟩ = some (.int .i64 c) ∧ W.cell? ⟨w.heap.size, 1, none⟩ = some (.int .i64 k) ∧ W.cell? ⟨w1.heap.size, 0, none⟩ = some (.int .i64 cn) ∧ W.cell? ⟨w1.heap.size, 1, none⟩ = some (.int .i64 nn) ∧ W.cell? ⟨w2.heap.size, 0, none⟩ = some (.int .i64 cn) ∧ W.cell? ⟨w2.heap.size, 1, none⟩ = some (.int .i64 nn)) (first | (exact next_keep (by assumption) bb) | (exact S0.out) | assumption | go_keep)
    (first | (go_at_call 12; refine (C3.out _).mono ?_; rintro e w3 ⟨rfl, bb⟩) | (go_at_call 14; refine (C4.out _).mono ?_; rintro e w4 ⟨rfl, bb⟩))
  all_goals
    rename_i hh
    obtain ⟨hb, r0, r1, r2, r3, r4, r5⟩ := hh
    try clear o1 o2 o3 o4 o5 o6
    have e1 := E1.out
    have e2 := E2.out
    clear E1 E2 C1 C2
    subst e1 e2
    go_wp2
    go_ret
    exact ⟨rfl, hb⟩

set_option maxRecDepth 100000 in
set_option maxHeartbeats 3200000 in
theorem next_later (clock node c k cn nn en q : Int) (w : World) (hN : Vs.nx clock node = (cn, nn, en)) (hV : Vs.chk c k = q) (he : en = 0) (hX : Vs.chk cn nn = 0) (hlt : clock < c) :
    Calls Try.prog 5 #[.int .i64 clock, .int .i64 node, .agg #[.int .i64 c, .int .i64 k]] w fun e w' => e = .returned (.bool true) ∧ Below w.heap.size w w' := by
  have C1 := aside (fun w => next_at hN w)
  have C2 := aside (fun w => nextRef_at hN w)
  have C3 := aside (fun w => checkVersion_at hV w)
  have C4 := aside (fun w => checkVersionRef_at hV w)
  subst he
  have C5 := aside (fun w => checkVersion_at hX w)
  clear hX
  clear hN hV
  go_enter Try.func5, Try.ntmps5
  go_wp2_with fail
  refine (C1.out _).mono ?_
  rintro e w1 ⟨rfl, b1⟩
  have v1 := (two_new w _ _ 24).imp (cell_on · b1) (cell_on · b1)
  have b01 := bthen (bnew w _) b1
  clear b1
  go_wp2_with fail
  refine (C2.out _).mono ?_
  rintro e w2 ⟨rfl, b2⟩
  have v2 := v1.imp (cell_on · (bthen (bnew w1 _) b2)) (cell_on · (bthen (bnew w1 _) b2))
  have n2 := (two_new w1 _ _ 24).imp (cell_on · b2) (cell_on · b2)
  have b02 := bthen b01 (bthen (bnew w1 _) b2)
  have m2 := two_new w2 (.int .i64 cn) (.int .i64 nn) 24
  have bN := bnew w2 (.cells #[.int .i64 cn, .int .i64 nn] 24)
  have S0 : Hid (Below w.heap.size w (w2.alloc (.cells #[.int .i64 cn, .int .i64 nn] 24)).drew ∧ (w2.alloc (.cells #[.int .i64 cn, .int .i64 nn] 24)).drew.cell? ⟨w.heap.size, 0, none⟩ = some (.int .i64 c) ∧ (w2.alloc (.cells #[.int .i64 cn, .int .i64 nn] 24)).drew.cell? ⟨w.heap.size, 1, none⟩ = some (.int .i64 k) ∧ (w2.alloc (.cells #[.int .i64 cn, .int .i64 nn] 24)).drew.cell? ⟨w1.heap.size, 0, none⟩ = some (.int .i64 cn) ∧ (w2.alloc (.cells #[.int .i64 cn, .int .i64 nn] 24)).drew.cell? ⟨w1.heap.size, 1, none⟩ = some (.int .i64 nn) ∧ (w2.alloc (.cells #[.int .i64 cn, .int .i64 nn] 24)).drew.cell? ⟨w2.heap.size, 0, none⟩ = some (.int .i64 cn) ∧ (w2.alloc (.cells #[.int .i64 cn, .int .i64 nn] 24)).drew.cell? ⟨w2.heap.size, 1, none⟩ = some (.int .i64 nn)) :=
    ⟨(bthen b02 bN).drew, cell_on v2.1 bN.drew, cell_on v2.2 bN.drew, cell_on n2.1 bN.drew, cell_on n2.2 bN.drew, m2.1, m2.2⟩
  obtain ⟨o1, o2⟩ := n2
  obtain ⟨o3, o4⟩ := v2
  replace o1 := cell_on o1 bN
  replace o2 := cell_on o2 bN
  replace o3 := cell_on o3 bN
  replace o4 := cell_on o4 bN
  obtain ⟨o5, o6⟩ := m2
  clear v1 b01 b2 b02 bN
  go_wp2_with fail
  generalize w2.alloc (.cells #[.int .i64 cn, .int .i64 nn] 24) = W0 at *
  go_region_held3 (fun W => Below w.heap.size w W ∧ W.cell? ⟨w.heap.size, 0, none⟩ = some (.int .i64 c) ∧ W.cell? ⟨w.heap.size, 1, none⟩ = some (.int .i64 k) ∧ W.cell? ⟨w1.heap.size, 0, none⟩ = some (.int .i64 cn) ∧ W.cell? ⟨w1.heap.size, 1, none⟩ = some (.int .i64 nn) ∧ W.cell? ⟨w2.heap.size, 0, none⟩ = some (.int .i64 cn) ∧ W.cell? ⟨w2.heap.size, 1, none⟩ = some (.int .i64 nn)) (first | (exact next_keep (by assumption) bb) | (exact S0.out) | assumption | go_keep)
    (first | (go_at_call 12; refine (C3.out _).mono ?_; rintro e w3 ⟨rfl, bb⟩) | (go_at_call 14; refine (C4.out _).mono ?_; rintro e w4 ⟨rfl, bb⟩))
  all_goals
    rename_i hh
    obtain ⟨hb, r0, r1, r2, r3, r4, r5⟩ := hh
    try clear o1 o2 o3 o4 o5 o6
    go_wp2_with fail
    refine (C5.out _).mono ?_
    rintro e w7 ⟨rfl, b7⟩
    replace r0 := cell_on r0 b7
    replace r1 := cell_on r1 b7
    replace r2 := cell_on r2 b7
    replace r3 := cell_on r3 b7
    replace hb := bthen hb b7
    clear b7
    go_wp2
    go_ret
    exact ⟨rfl, hb⟩

set_option maxRecDepth 100000 in
set_option maxHeartbeats 3200000 in
theorem next_newer (clock node c k cn nn en q : Int) (w : World) (hN : Vs.nx clock node = (cn, nn, en)) (hV : Vs.chk c k = q) (he : en = 0) (hX : Vs.chk cn nn = 0) (hlt : ¬ clock < c) (hC : Vs.cmp cn nn c k = 1) :
    Calls Try.prog 5 #[.int .i64 clock, .int .i64 node, .agg #[.int .i64 c, .int .i64 k]] w fun e w' => e = .returned (.bool true) ∧ Below w.heap.size w w' := by
  have C1 := aside (fun w => next_at hN w)
  have C2 := aside (fun w => nextRef_at hN w)
  have C3 := aside (fun w => checkVersion_at hV w)
  have C4 := aside (fun w => checkVersionRef_at hV w)
  subst he
  have C5 := aside (fun w => checkVersion_at hX w)
  have C6 := aside (fun w => compare_at hC w)
  clear hX hC
  clear hN hV
  go_enter Try.func5, Try.ntmps5
  go_wp2_with fail
  refine (C1.out _).mono ?_
  rintro e w1 ⟨rfl, b1⟩
  have v1 := (two_new w _ _ 24).imp (cell_on · b1) (cell_on · b1)
  have b01 := bthen (bnew w _) b1
  clear b1
  go_wp2_with fail
  refine (C2.out _).mono ?_
  rintro e w2 ⟨rfl, b2⟩
  have v2 := v1.imp (cell_on · (bthen (bnew w1 _) b2)) (cell_on · (bthen (bnew w1 _) b2))
  have n2 := (two_new w1 _ _ 24).imp (cell_on · b2) (cell_on · b2)
  have b02 := bthen b01 (bthen (bnew w1 _) b2)
  have m2 := two_new w2 (.int .i64 cn) (.int .i64 nn) 24
  have bN := bnew w2 (.cells #[.int .i64 cn, .int .i64 nn] 24)
  have S0 : Hid (Below w.heap.size w (w2.alloc (.cells #[.int .i64 cn, .int .i64 nn] 24)).drew ∧ (w2.alloc (.cells #[.int .i64 cn, .int .i64 nn] 24)).drew.cell? ⟨w.heap.size, 0, none⟩ = some (.int .i64 c) ∧ (w2.alloc (.cells #[.int .i64 cn, .int .i64 nn] 24)).drew.cell? ⟨w.heap.size, 1, none⟩ = some (.int .i64 k) ∧ (w2.alloc (.cells #[.int .i64 cn, .int .i64 nn] 24)).drew.cell? ⟨w1.heap.size, 0, none⟩ = some (.int .i64 cn) ∧ (w2.alloc (.cells #[.int .i64 cn, .int .i64 nn] 24)).drew.cell? ⟨w1.heap.size, 1, none⟩ = some (.int .i64 nn) ∧ (w2.alloc (.cells #[.int .i64 cn, .int .i64 nn] 24)).drew.cell? ⟨w2.heap.size, 0, none⟩ = some (.int .i64 cn) ∧ (w2.alloc (.cells #[.int .i64 cn, .int .i64 nn] 24)).drew.cell? ⟨w2.heap.size, 1, none⟩ = some (.int .i64 nn)) :=
    ⟨(bthen b02 bN).drew, cell_on v2.1 bN.drew, cell_on v2.2 bN.drew, cell_on n2.1 bN.drew, cell_on n2.2 bN.drew, m2.1, m2.2⟩
  obtain ⟨o1, o2⟩ := n2
  obtain ⟨o3, o4⟩ := v2
  replace o1 := cell_on o1 bN
  replace o2 := cell_on o2 bN
  replace o3 := cell_on o3 bN
  replace o4 := cell_on o4 bN
  obtain ⟨o5, o6⟩ := m2
  clear v1 b01 b2 b02 bN
  go_wp2_with fail
  generalize w2.alloc (.cells #[.int .i64 cn, .int .i64 nn] 24) = W0 at *
  go_region_held3 (fun W => Below w.heap.size w W ∧ W.cell? ⟨w.heap.size, 0, none⟩ = some (.int .i64 c) ∧ W.cell? ⟨w.heap.size, 1, none⟩ = some (.int .i64 k) ∧ W.cell? ⟨w1.heap.size, 0, none⟩ = some (.int .i64 cn) ∧ W.cell? ⟨w1.heap.size, 1, none⟩ = some (.int .i64 nn) ∧ W.cell? ⟨w2.heap.size, 0, none⟩ = some (.int .i64 cn) ∧ W.cell? ⟨w2.heap.size, 1, none⟩ = some (.int .i64 nn)) (first | (exact next_keep (by assumption) bb) | (exact S0.out) | assumption | go_keep)
    (first | (go_at_call 12; refine (C3.out _).mono ?_; rintro e w3 ⟨rfl, bb⟩) | (go_at_call 14; refine (C4.out _).mono ?_; rintro e w4 ⟨rfl, bb⟩))
  all_goals
    rename_i hh
    obtain ⟨hb, r0, r1, r2, r3, r4, r5⟩ := hh
    try clear o1 o2 o3 o4 o5 o6
    go_wp2_with fail
    refine (C5.out _).mono ?_
    rintro e w7 ⟨rfl, b7⟩
    replace r0 := cell_on r0 b7
    replace r1 := cell_on r1 b7
    replace r2 := cell_on r2 b7
    replace r3 := cell_on r3 b7
    replace hb := bthen hb b7
    clear b7
    go_wp2_with fail
    refine (C6.out _).mono ?_
    rintro e w8 ⟨rfl, b8⟩
    replace hb := bthen hb b8
    clear b8
    go_wp2
    go_ret
    exact ⟨rfl, hb⟩

theorem next_walk (clock node c k : Int) (w : World) :
    Calls Try.prog 5 #[.int .i64 clock, .int .i64 node, .agg #[.int .i64 c, .int .i64 k]] w fun e w' => e = .returned (.bool true) ∧ Below w.heap.size w w' := by
  rcases nx_cases clock node with h | h | ⟨h, h1, h2, h3, h4⟩
  · exact next_bad clock node c k 0 0 30 _ w h rfl ⟨rfl, rfl, .inl rfl⟩
  · exact next_bad clock node c k 0 0 33 _ w h rfl ⟨rfl, rfl, .inr rfl⟩
  · have hX : Vs.chk (clock + 1) node = 0 := chk_ok (by omega) (by omega) (by omega) (by omega)
    by_cases hlt : clock < c
    · exact next_later clock node c k _ _ 0 _ w h rfl rfl hX hlt
    · exact next_newer clock node c k _ _ 0 _ w h rfl rfl hX hlt (cmp_gt (by omega) _ _)

end Go.Proofs.Ytnjbglnkhgholaa

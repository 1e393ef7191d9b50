/-
  A Config's check, the code's and the document's; the document's new stores, desks and nodes.
-/
import Derived.Test.YtldnmboenfaajaaGreatDoorBn2
namespace Go.Proofs.YtldnmboenfaajaaGreatDoor
open Go.RowKit
set_option linter.unusedVariables false
/-- What is wrong with a Config. -/
def cfgE (b l t r : Int) : Int := if b < 2 ∨ 16 < b ∨ l < 1 ∨ 32 < l ∨ t < 1 ∨ 100 < t ∨ r < 0 ∨ 20 < r then 1 else 0
theorem own_notsN {w : World} {B : Nat} {e t : TypeId} {s n k : Nat} {v : Value} {xs : List Value} {cs : Array Value} (h : w.ownsRow B e s v n xs) (hk : w.heap[k]? = some (.cells cs t (0, 0))) (ht : e ≠ t) : ¬ v.ownBlock = some k := by
  intro h1
  rcases h.2 with ⟨h2, _⟩ | ⟨g, cap, cur, h2, h3, h4, h5⟩
  · rw [h2] at h1; cases h1
  · rw [h2] at h1
    have e1 : g = k := by simpa [Value.ownBlock] using h1
    subst e1
    rw [hk] at h4
    injection h4 with h4
    injection h4 with _ h4 _
    exact ht h4.symm
set_option maxHeartbeats 3200000 in
set_option maxRecDepth 100000 in
theorem cfgC_any (b l t r : Int) (w : World) : Calls Tryz.prog 35 #[.agg #[.int .i64 b, .int .i64 l, .int .i64 t, .int .i64 r]] w fun e w' => e = .returned (.int .i64 (cfgE b l t r)) ∧ Below w.heap.size w w' := by
  have B0 := aside (bnew w (.cells #[.int .i64 b, .int .i64 l, .int .i64 t, .int .i64 r] 23))
  obtain ⟨q0, q1, q2, q3, -⟩ := quad (heap_alloc_new w (.cells #[.int .i64 b, .int .i64 l, .int .i64 t, .int .i64 r] 23))
  by_cases h0 : b < 2
  · rw [show cfgE b l t r = 1 from by unfold cfgE; exact if_pos (by omega)]
    go_enter Tryz.func35, Tryz.ntmps35
    go_wp2
    go_ret
    exact ⟨rfl, B0.out⟩
  by_cases h1 : 16 < b
  · rw [show cfgE b l t r = 1 from by unfold cfgE; exact if_pos (by omega)]
    go_enter Tryz.func35, Tryz.ntmps35
    go_wp2
    go_ret
    exact ⟨rfl, B0.out⟩
  by_cases h2 : l < 1
  · rw [show cfgE b l t r = 1 from by unfold cfgE; exact if_pos (by omega)]
    go_enter Tryz.func35, Tryz.ntmps35
    go_wp2
    go_ret
    exact ⟨rfl, B0.out⟩
  by_cases h3 : 32 < l
  · rw [show cfgE b l t r = 1 from by unfold cfgE; exact if_pos (by omega)]
    go_enter Tryz.func35, Tryz.ntmps35
    go_wp2
    go_ret
    exact ⟨rfl, B0.out⟩
  by_cases h4 : t < 1
  · rw [show cfgE b l t r = 1 from by unfold cfgE; exact if_pos (by omega)]
    go_enter Tryz.func35, Tryz.ntmps35
    go_wp2
    go_ret
    exact ⟨rfl, B0.out⟩
  by_cases h5 : 100 < t
  · rw [show cfgE b l t r = 1 from by unfold cfgE; exact if_pos (by omega)]
    go_enter Tryz.func35, Tryz.ntmps35
    go_wp2
    go_ret
    exact ⟨rfl, B0.out⟩
  by_cases h6 : r < 0
  · rw [show cfgE b l t r = 1 from by unfold cfgE; exact if_pos (by omega)]
    go_enter Tryz.func35, Tryz.ntmps35
    go_wp2
    go_ret
    exact ⟨rfl, B0.out⟩
  by_cases h7 : 20 < r
  · rw [show cfgE b l t r = 1 from by unfold cfgE; exact if_pos (by omega)]
    go_enter Tryz.func35, Tryz.ntmps35
    go_wp2
    go_ret
    exact ⟨rfl, B0.out⟩
  rw [show cfgE b l t r = 0 from by unfold cfgE; exact if_neg (by omega)]
  go_enter Tryz.func35, Tryz.ntmps35
  go_wp2
  go_ret
  exact ⟨rfl, B0.out⟩
set_option maxHeartbeats 3200000 in
set_option maxRecDepth 100000 in
theorem cfgR_any (b l t r : Int) (w : World) : Calls Tryz.prog 10 #[.agg #[.int .i64 b, .int .i64 l, .int .i64 t, .int .i64 r]] w fun e w' => e = .returned (.int .i64 (cfgE b l t r)) ∧ Below w.heap.size w w' := by
  have B0 := aside (bnew w (.cells #[.int .i64 b, .int .i64 l, .int .i64 t, .int .i64 r] 23))
  obtain ⟨q0, q1, q2, q3, -⟩ := quad (heap_alloc_new w (.cells #[.int .i64 b, .int .i64 l, .int .i64 t, .int .i64 r] 23))
  by_cases h0 : b < 2
  · rw [show cfgE b l t r = 1 from by unfold cfgE; exact if_pos (by omega)]
    go_enter Tryz.func10, Tryz.ntmps10
    go_wp2
    go_ret
    exact ⟨rfl, B0.out⟩
  by_cases h1 : 16 < b
  · rw [show cfgE b l t r = 1 from by unfold cfgE; exact if_pos (by omega)]
    go_enter Tryz.func10, Tryz.ntmps10
    go_wp2
    go_ret
    exact ⟨rfl, B0.out⟩
  by_cases h2 : l < 1
  · rw [show cfgE b l t r = 1 from by unfold cfgE; exact if_pos (by omega)]
    go_enter Tryz.func10, Tryz.ntmps10
    go_wp2
    go_ret
    exact ⟨rfl, B0.out⟩
  by_cases h3 : 32 < l
  · rw [show cfgE b l t r = 1 from by unfold cfgE; exact if_pos (by omega)]
    go_enter Tryz.func10, Tryz.ntmps10
    go_wp2
    go_ret
    exact ⟨rfl, B0.out⟩
  by_cases h4 : t < 1
  · rw [show cfgE b l t r = 1 from by unfold cfgE; exact if_pos (by omega)]
    go_enter Tryz.func10, Tryz.ntmps10
    go_wp2
    go_ret
    exact ⟨rfl, B0.out⟩
  by_cases h5 : 100 < t
  · rw [show cfgE b l t r = 1 from by unfold cfgE; exact if_pos (by omega)]
    go_enter Tryz.func10, Tryz.ntmps10
    go_wp2
    go_ret
    exact ⟨rfl, B0.out⟩
  by_cases h6 : r < 0
  · rw [show cfgE b l t r = 1 from by unfold cfgE; exact if_pos (by omega)]
    go_enter Tryz.func10, Tryz.ntmps10
    go_wp2
    go_ret
    exact ⟨rfl, B0.out⟩
  by_cases h7 : 20 < r
  · rw [show cfgE b l t r = 1 from by unfold cfgE; exact if_pos (by omega)]
    go_enter Tryz.func10, Tryz.ntmps10
    go_wp2
    go_ret
    exact ⟨rfl, B0.out⟩
  rw [show cfgE b l t r = 0 from by unfold cfgE; exact if_neg (by omega)]
  go_enter Tryz.func10, Tryz.ntmps10
  go_wp2
  go_ret
  exact ⟨rfl, B0.out⟩
set_option maxHeartbeats 3200000 in
set_option maxRecDepth 100000 in
theorem rnew8 (nd : Int) (w : World) : Calls Tryz.prog 9 #[.int .i64 nd] w fun e w' => Below w.heap.size w w' ∧ ((nodeB nd = false ∧ e = .returned (.tuple #[.pointer none, .int .i64 1])) ∨ (nodeB nd = true ∧ ∃ db, e = .returned (.tuple #[.pointer (some ⟨db, 0, none⟩), .int .i64 0]) ∧ w.heap.size ≤ db ∧ DSt w' w.heap.size db nd 0 [])) := by
  by_cases h1 : nd < 0
  · have HB := aside (node_no1 h1)
    go_enter Tryz.func9, Tryz.ntmps9
    go_wp2
    go_ret2
    exact ⟨Below.refl _ _, .inl ⟨HB.out, rfl⟩⟩
  by_cases h2 : 8 ≤ nd
  · have HB := aside (node_no2 h2)
    go_enter Tryz.func9, Tryz.ntmps9
    go_wp2
    go_ret2
    exact ⟨Below.refl _ _, .inl ⟨HB.out, rfl⟩⟩
  have HB := aside (node_yes h1 h2)
  go_enter Tryz.func9, Tryz.ntmps9
  go_wp2
  go_ret2
  exact ⟨bnew _ _, .inr ⟨HB.out, _, rfl, Nat.le_refl _, _, heap_alloc_new w _, rfl, .inl ⟨rfl, rfl⟩⟩⟩
set_option maxHeartbeats 3200000 in
set_option maxRecDepth 100000 in
theorem rnew16 (sb : Nat) (b l t r : Int) (hc : cfgE b l t r = 0) (w : World) : Calls Tryz.prog 11 #[.pointer (some ⟨sb, 0, none⟩), .agg #[.int .i64 b, .int .i64 l, .int .i64 t, .int .i64 r], .int .i64 1] w fun e w' => Below w.heap.size w w' ∧ ∃ d, e = .returned (.tuple #[.pointer (some ⟨d, 0, none⟩), .int .i64 0]) ∧ w'.heap[d]? = some (.cells #[.pointer (some ⟨sb, 0, none⟩), .int .i64 b, .int .i64 l, .int .i64 t, .int .i64 r, .int .i64 1, .int .i64 0, .int .i64 0, .slice none 0 0, .slice none 0 0] 72 (0, 0)) := by
  have B0 := aside (bnew w (.cells #[.int .i64 b, .int .i64 l, .int .i64 t, .int .i64 r] 23))
  have K0 := aside (heap_alloc_new w (.cells #[.int .i64 b, .int .i64 l, .int .i64 t, .int .i64 r] 23))
  have C := aside (cfgR_any b l t r (w.alloc (.cells #[.int .i64 b, .int .i64 l, .int .i64 t, .int .i64 r] 23)))
  rw [hc] at C
  obtain ⟨q0, q1, q2, q3, -⟩ := quad K0.out
  clear hc
  go_enter Tryz.func11, Tryz.ntmps11
  go_wp2_with fail
  refine C.out.mono ?_
  rintro e w1 ⟨rfl, b1⟩
  clear q0 q1 q2 q3
  obtain ⟨q0, q1, q2, q3, -⟩ := quad (blk_on K0.out b1)
  have B1 := aside (bthen B0.out b1)
  clear b1 C K0
  go_wp2
  go_ret2
  exact ⟨bthen B1.out (bnew _ _), _, rfl, heap_alloc_new w1 _⟩
set_option maxHeartbeats 3200000 in
set_option maxRecDepth 100000 in
theorem rnew17 (nd b l t r : Int) (w : World) : Calls Tryz.prog 5 #[.int .i64 nd, .agg #[.int .i64 b, .int .i64 l, .int .i64 t, .int .i64 r]] w fun e w' => Below w.heap.size w w' ∧ ((¬ (nodeB nd = true ∧ cfgE b l t r = 0) ∧ e = .returned (.tuple #[.pointer none, .int .i64 1])) ∨ ((nodeB nd = true ∧ cfgE b l t r = 0) ∧ ∃ n db d, e = .returned (.tuple #[.pointer (some ⟨n, 0, none⟩), .int .i64 0]) ∧ w'.heap[n]? = some (.cells #[.int .i64 b, .int .i64 l, .int .i64 t, .int .i64 r, .pointer (some ⟨db, 0, none⟩), .pointer (some ⟨d, 0, none⟩), .int .i64 1, .int .i64 0, .int .i64 0, .int .i64 0, .int .i64 0, .int .i64 0, .int .i64 0, .int .i64 0, .int .i64 0, .int .i64 0, .int .i64 0] 53 (0, 0)) ∧ DSt w' w.heap.size db nd 0 [] ∧ w'.heap[d]? = some (.cells #[.pointer (some ⟨db, 0, none⟩), .int .i64 b, .int .i64 l, .int .i64 t, .int .i64 r, .int .i64 1, .int .i64 0, .int .i64 0, .slice none 0 0, .slice none 0 0] 72 (0, 0)))) := by
  have B0 := aside (bnew w (.cells #[.int .i64 b, .int .i64 l, .int .i64 t, .int .i64 r] 23))
  have K0 := aside (heap_alloc_new w (.cells #[.int .i64 b, .int .i64 l, .int .i64 t, .int .i64 r] 23))
  have C := aside (rnew8 nd (w.alloc (.cells #[.int .i64 b, .int .i64 l, .int .i64 t, .int .i64 r] 23)))
  go_enter Tryz.func5, Tryz.ntmps5
  go_wp2_with fail
  refine C.out.mono ?_
  rintro e w1 ⟨b1, ⟨hn, rfl⟩ | ⟨hn, db, rfl, hd1, hd2⟩⟩
  · have HN := aside hn
    have B1 := aside (bthen B0.out b1)
    clear b1 C K0 hn B0
    go_wp2
    go_ret2
    exact ⟨B1.out, .inl ⟨fun h => (by rw [HN.out] at h; exact absurd h.1 (by decide)), rfl⟩⟩
  have HN := aside hn
  have HD := aside (show DSt w1 w.heap.size db nd 0 [] from by obtain ⟨v, h1, h2⟩ := hd2; exact ⟨v, h1, own_low h2 B0.out.size⟩)
  have B1 := aside (bthen B0.out b1)
  replace K0 := aside (blk_on K0.out b1)
  have CC := aside (cfgR_any b l t r w1)
  obtain ⟨q, hq⟩ : ∃ q, cfgE b l t r = q := ⟨_, rfl⟩
  have HQ := aside hq
  rw [hq] at CC
  obtain ⟨q0, q1, q2, q3, -⟩ := quad K0.out
  clear b1 C B0 hn hd1 hd2 hq
  go_wp2_with fail
  refine CC.out.mono ?_
  rintro e w2 ⟨rfl, b2⟩
  have B2 := aside (bthen B1.out b2)
  have HD2 := aside (HD.out.below b2)
  clear q0 q1 q2 q3
  obtain ⟨q0, q1, q2, q3, -⟩ := quad (blk_on K0.out b2)
  have K2 := aside (blk_on K0.out b2)
  clear b2 CC B1 HD K0
  by_cases hz : q = 0
  · subst hz
    have KN := aside (heap_alloc_new w2 (.cells #[.int .i64 b, .int .i64 l, .int .i64 t, .int .i64 r, .pointer (some ⟨db, 0, none⟩), .pointer none, .int .i64 1, .int .i64 0, .int .i64 0, .int .i64 0, .int .i64 0, .int .i64 0, .int .i64 0, .int .i64 0, .int .i64 0, .int .i64 0, .int .i64 0] 53))
    have BN := bnew w2 (.cells #[.int .i64 b, .int .i64 l, .int .i64 t, .int .i64 r, .pointer (some ⟨db, 0, none⟩), .pointer none, .int .i64 1, .int .i64 0, .int .i64 0, .int .i64 0, .int .i64 0, .int .i64 0, .int .i64 0, .int .i64 0, .int .i64 0, .int .i64 0, .int .i64 0] 53)
    have B3 := aside (bthen B2.out BN)
    have HD3 := aside (HD2.out.below BN)
    have K3 := aside (blk_on K2.out BN)
    obtain ⟨y0, y1, y2, y3, -⟩ := quad K3.out
    clear K2 HD2 BN
    go_wp2_with fail
    obtain ⟨n, hnn⟩ : ∃ n, w2.heap.size = n := ⟨_, rfl⟩
    rw [hnn] at KN ⊢
    have HNN := aside (show w.heap.size ≤ n from by have := B2.out.size; omega)
    obtain ⟨V, hV⟩ : ∃ V, w2.alloc (.cells #[.int .i64 b, .int .i64 l, .int .i64 t, .int .i64 r, .pointer (some ⟨db, 0, none⟩), .pointer none, .int .i64 1, .int .i64 0, .int .i64 0, .int .i64 0, .int .i64 0, .int .i64 0, .int .i64 0, .int .i64 0, .int .i64 0, .int .i64 0, .int .i64 0] 53) = V := ⟨_, rfl⟩
    rw [hV] at KN B3 HD3 K3 y0 y1 y2 y3 ⊢
    have C16 := aside (rnew16 db b l t r HQ.out V)
    clear hV hnn q0 q1 q2 q3
    refine C16.out.mono ?_
    rintro e w3 ⟨b3, d, rfl, hdk⟩
    have KN3 := aside (blk_on KN.out b3)
    have c5 : w3.cell? ⟨n, 5, none⟩ = some (.pointer none) := by rw [cell_of_row _ _ 5 _ _ _ KN3.out]; rfl
    have z5 := frozen_of_row _ _ 5 _ _ KN3.out
    have NE := aside (show d ≠ n from fun e => by have h9 := KN3.out; rw [← e, hdk] at h9; simp at h9)
    have HK := aside hdk
    have HD4 := aside (HD3.out.below b3)
    have B4 := aside (bthen B3.out b3)
    clear b3 C16 KN y0 y1 y2 y3 K3 hdk HD3 B3
    go_wp2
    go_ret2
    refine ⟨B4.out.setCell (p := ⟨n, 5, none⟩) (by show w.heap.size ≤ n; exact HNN.out) _, .inr ⟨⟨HN.out, HQ.out⟩, n, db, d, rfl, ?_, ?_, ?_⟩⟩
    · have kz := heap_setCell_same _ n 5 _ _ (.pointer (some ⟨d, 0, none⟩)) KN3.out
      simpa only [List.setIfInBounds_toArray, List.set_cons_zero, List.set_cons_succ] using kz
    · have kk := (Keeps.refl (fun x => x = n) w3).setCell (p := ⟨n, 5, none⟩) (fun _ => rfl) (.pointer (some ⟨d, 0, none⟩))
      obtain ⟨v, h1, h2⟩ := HD4.out
      exact ⟨v, blk_keep h1 kk (fun e => by have e' : db = n := e; have h9 := KN3.out; rw [← e', h1] at h9; simp at h9), ownsRow_keep h2 kk (fun j hj e => own_notsN h2 KN3.out (by decide) (e ▸ hj))⟩
    · rw [heap_setCell_other _ _ _ _ (fun e => NE.out (by dsimp only at e; exact e))]
      exact HK.out
  · have HZ := aside hz
    have hzb : (q == 0) = false := by simpa using hz
    go_wp2
    go_ret2
    exact ⟨B2.out, .inl ⟨fun h => HZ.out (by rw [← HQ.out]; exact h.2), rfl⟩⟩
end Go.Proofs.YtldnmboenfaajaaGreatDoor

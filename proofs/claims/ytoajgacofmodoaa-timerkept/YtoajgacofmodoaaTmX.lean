/-
  fresh, same of the statements: a timer of the code's beside the document's.
-/
import Derived.Test.YtoajgacofmodoaaTmW
import Derived.Test.YtoajgacofmodoaaTmG
namespace Go.Proofs.Ytoajgacofmodoaa
open Go.RowKit
set_option linter.unusedVariables false

/-- A row that was told is one in memory. -/
theorem al_in {w : World} {B n : Nat} {e : TypeId} {v : Value} {l : List Alm} (h : w.ownsRow B e 4 v n (alCells l)) : ∃ a c, v = .slice a n c ∧ AlIn e w a n c l := by
  have hn := al_len h
  rcases h.2 with ⟨rfl, rfl⟩ | ⟨g, cap, cur, rfl, hb, hg, h1, h2, _⟩
  · exact ⟨none, 0, rfl, hn, Nat.le_refl _, Nat.zero_le _, .inl rfl⟩
  · exact ⟨_, cap, rfl, hn, h1, h2, .inr ⟨g, _, rfl, hg, fun i x hi => al_cells h hi⟩⟩
/-- A timer of the code's, and the document's, with the same alarms. -/
structure Pr (w : World) (pt bt pd : Nat) (L : List Alm) : Prop where
  t : Tim w pt bt L
  d : DTm w pd L
theorem Pr.below {w w' : World} {pt bt pd : Nat} {L : List Alm} (h : Pr w pt bt pd L) (b : Below w.heap.size w w') : Pr w' pt bt pd L := ⟨h.t.below b, h.d.below b⟩
theorem Pr.lt {w : World} {pt bt pd : Nat} {L : List Alm} (h : Pr w pt bt pd L) : pt < w.heap.size ∧ bt < w.heap.size ∧ pd < w.heap.size := by
  obtain ⟨⟨h1, -, -, D, hm, -⟩, v, h2, -⟩ := h
  exact ⟨lt_of_blk h1, hm.lt, lt_of_blk h2⟩
theorem Pr.ne {w : World} {pt bt pd : Nat} {L : List Alm} (h : Pr w pt bt pd L) : pt ≠ pd ∧ bt ≠ pd ∧ pt ≠ bt := by
  have h9 := h.t.ne
  obtain ⟨⟨h1, -, -, D, ⟨es, clock, hm, -⟩, -⟩, v, h2, -⟩ := h
  refine ⟨fun e => ?_, fun e => ?_, h9⟩
  · rw [e, h2] at h1; simp at h1
  · rw [e, h2] at hm; cases hm
/-- Which blocks a step of a pair may turn. -/
def OnP (bt pd : Nat) : Nat → Prop := fun x => x = bt ∨ x = pd
/-- A pair beside another one that is stepped. -/
theorem Pr.keep {w w' : World} {pt bt pd : Nat} {L : List Alm} {pt' bt' pd' : Nat} {L' : List Alm} (h : Pr w pt bt pd L) (h' : Pr w pt' bt' pd' L') (k : Keeps (OnP bt' pd') w w') (hb : bt ≠ bt') (hd : pd ≠ pd') : Pr w' pt bt pd L := by
  have tt : pt ≠ pd' := fun e => by
    obtain ⟨⟨h1, -⟩, -⟩ := h
    obtain ⟨-, v, h2, -⟩ := h'
    rw [e, h2] at h1; simp at h1
  have tb : bt ≠ pd' := fun e => by
    obtain ⟨⟨-, -, -, D, ⟨es, clock, hm, -⟩, -⟩, -⟩ := h
    obtain ⟨-, v, h2, -⟩ := h'
    rw [e, h2] at hm; cases hm
  have td : pd ≠ bt' := fun e => by
    obtain ⟨-, v, h2, -⟩ := h
    obtain ⟨⟨-, -, -, D, ⟨es, clock, hm, -⟩, -⟩, -⟩ := h'
    rw [e, hm] at h2; cases h2
  refine ⟨h.t.keep k (fun e => ?_) (fun e => ?_), h.d.keep k (fun e => ?_) (fun i cs hi e => ?_)⟩
  · rcases e with e | e
    · exact h.t.ne2 h'.t e
    · exact tt e
  · rcases e with e | e
    · exact hb e
    · exact tb e
  · rcases e with e | e
    · exact td e
    · exact hd e
  · rcases e with e | e
    · exact h'.t.far _ i cs hi e
    · exact h'.d.far i cs hi e

set_option maxHeartbeats 3200000 in
set_option maxRecDepth 100000 in
theorem fresh_any (w : World) : Calls Try.prog 13 #[] w fun e w' => ∃ pt bt pd, e = .returned (.agg #[.pointer (some ⟨pt, 0, none⟩), .pointer (some ⟨pd, 0, none⟩)]) ∧ w.heap.size ≤ pt ∧ w.heap.size ≤ bt ∧ w.heap.size ≤ pd ∧ Pr w' pt bt pd [] ∧ Below w.heap.size w w' := by
  have B0 := aside (bnew w (.cells #[.pointer none, .pointer none] 40))
  have K0 := aside (heap_alloc_new w (.cells #[.pointer none, .pointer none] 40))
  go_enter Try.func13, Try.ntmps13
  go_wp2_with fail
  refine (tnew_any _).mono ?_
  rintro e w1 ⟨pt, bt, rfl, h1, h2, ht, b1⟩
  go_wp2_with fail
  refine (rnewT_any _).mono ?_
  rintro e w2 ⟨pd, rfl, h3, hd, b2⟩
  obtain ⟨q, hq⟩ : ∃ q, w.heap.size = q := ⟨_, rfl⟩
  have K2 := blk_on (blk_on K0.out b1) b2
  rw [hq] at K2
  have S0 := aside (show q + 1 ≤ pt ∧ q + 1 ≤ bt ∧ q + 1 ≤ pd from by
    have e9 : (w.alloc (.cells #[.pointer none, .pointer none] 40)).heap.size = q + 1 := by rw [World.size_alloc, hq]
    rw [e9] at h1 h2
    have := b1.size
    rw [e9] at this
    exact ⟨h1, h2, by omega⟩)
  have HPR := aside (show Pr w2 pt bt pd [] from ⟨ht.below b2, hd⟩)
  have BF := aside (bthen (bthen B0.out b1) b2)
  have HQ := aside hq
  obtain ⟨c0, c1⟩ : w2.cell? ⟨q, 0, none⟩ = some (.pointer none) ∧ w2.cell? ⟨q, 1, none⟩ = some (.pointer none) := by simp [World.cell?, K2]
  have f0 := frozen_of_row _ _ 0 _ _ K2
  have f1 := frozen_of_row _ _ 1 _ _ K2
  have KF := set_in 1 (.pointer (some ⟨pd, 0, none⟩)) (set_in 0 (.pointer (some ⟨pt, 0, none⟩)) K2)
  have KS := aside (((Keeps.refl (fun x => x = q) w2).setCell (p := ⟨q, 0, none⟩) (fun _ => rfl) (.pointer (some ⟨pt, 0, none⟩))).setCell (p := ⟨q, 1, none⟩) (fun _ => rfl) (.pointer (some ⟨pd, 0, none⟩)))
  have HKQ := aside K2
  clear h1 h2 h3 ht hd b1 b2 K2
  go_wp2
  obtain ⟨d0, d1⟩ : ((w2.setCell ⟨q, 0, none⟩ (.pointer (some ⟨pt, 0, none⟩))).setCell ⟨q, 1, none⟩ (.pointer (some ⟨pd, 0, none⟩))).cell? ⟨q, 0, none⟩ = some (.pointer (some ⟨pt, 0, none⟩)) ∧ ((w2.setCell ⟨q, 0, none⟩ (.pointer (some ⟨pt, 0, none⟩))).setCell ⟨q, 1, none⟩ (.pointer (some ⟨pd, 0, none⟩))).cell? ⟨q, 1, none⟩ = some (.pointer (some ⟨pd, 0, none⟩)) := by simp [World.cell?, KF]
  refine bodyPost_ret (v := .agg #[.pointer (some ⟨pt, 0, none⟩), .pointer (some ⟨pd, 0, none⟩)]) (by simp [results, Try.results13, go_sem, d0, d1]) rfl ⟨pt, bt, pd, rfl, by have := S0.out; omega, by have := S0.out; omega, by have := S0.out; omega, ⟨HPR.out.t.keep KS.out (by have := S0.out; omega) (by have := S0.out; omega), HPR.out.d.keep KS.out (by have := S0.out; omega) (fun i cs hi e => by rw [e, HKQ.out] at hi; simp at hi)⟩, ?_⟩
  exact BF.out.trans (KS.out.below (B := w.heap.size) (by have := BF.out.size; omega) (fun k hk e => by have := HQ.out; omega))

theorem nextV_is (L : List Alm) : ∃ o l k t b, nextV L = .tuple #[.agg #[.int .i64 o, .int .i64 l, .int .i64 k], .int .i64 t, .bool b] := by
  cases L with
  | nil => exact ⟨0, 0, 0, 0, false, rfl⟩
  | cons a r => exact ⟨_, _, _, _, _, rfl⟩
set_option maxHeartbeats 6400000 in
set_option maxRecDepth 100000 in
theorem same_anyT {w : World} {pt bt pd : Nat} {L : List Alm} (h : Pr w pt bt pd L) : Calls Try.prog 15 #[.agg #[.pointer (some ⟨pt, 0, none⟩), .pointer (some ⟨pd, 0, none⟩)]] w fun e w' => e = .returned (.bool true) ∧ Below w.heap.size w w' := by
  obtain ⟨o, l, k, t, b9, hnv⟩ := nextV_is L
  have B0 := aside (bnew w (.cells #[.pointer (some ⟨pt, 0, none⟩), .pointer (some ⟨pd, 0, none⟩)] 40))
  have K0 := aside (heap_alloc_new w (.cells #[.pointer (some ⟨pt, 0, none⟩), .pointer (some ⟨pd, 0, none⟩)] 40))
  have HP := aside (h.below B0.out)
  have EQN := fun W => name_binE_same o l k W
  obtain ⟨V, hV⟩ : ∃ V, w.alloc (.cells #[.pointer (some ⟨pt, 0, none⟩), .pointer (some ⟨pd, 0, none⟩)] 40) = V := ⟨_, rfl⟩
  obtain ⟨q, hq⟩ : ∃ q, w.heap.size = q := ⟨_, rfl⟩
  rw [hV] at B0 K0 HP
  rw [hq] at K0
  have CT := fun W (bb : Below V.heap.size V W) => tnext_any (HP.out.below bb).t
  have CD := fun W (bb : Below V.heap.size V W) => rnextT_any (HP.out.below bb).d
  rw [hnv] at CT CD
  replace CT := aside CT
  replace CD := aside CD
  clear h hnv
  obtain ⟨z0, z1⟩ : V.cell? ⟨q, 0, none⟩ = some (.pointer (some ⟨pt, 0, none⟩)) ∧ V.cell? ⟨q, 1, none⟩ = some (.pointer (some ⟨pd, 0, none⟩)) := by simp [World.cell?, K0.out]
  go_enter Try.func15, Try.ntmps15
  go_wp2_with fail
  try rw [hV]
  refine (CT.out _ (Below.refl _ V)).mono ?_
  rintro e w3 ⟨rfl, b3⟩
  obtain ⟨V3, hV3⟩ : ∃ V, w3.alloc (.cells #[.int .i64 o, .int .i64 l, .int .i64 k] 29) = V := ⟨_, rfl⟩
  obtain ⟨q3, hq3⟩ : ∃ q, w3.heap.size = q := ⟨_, rfl⟩
  have BV3 := aside (show Below V.heap.size V V3 from by rw [← hV3]; exact bthen b3 (bnew w3 _))
  have KV3 := aside (show V3.heap[q3]? = some (.cells #[.int .i64 o, .int .i64 l, .int .i64 k] 29 (0, 0)) from by rw [← hV3, ← hq3]; exact heap_alloc_new w3 _)
  have K03 := aside (blk_on K0.out BV3.out)
  obtain ⟨y0, y1⟩ : V3.cell? ⟨q, 0, none⟩ = some (.pointer (some ⟨pt, 0, none⟩)) ∧ V3.cell? ⟨q, 1, none⟩ = some (.pointer (some ⟨pd, 0, none⟩)) := by simp [World.cell?, K03.out]
  clear b3 z0 z1
  go_wp2_with fail
  refine (CD.out _ BV3.out).mono ?_
  rintro e w4 ⟨rfl, b4⟩
  obtain ⟨V4, hV4⟩ : ∃ V, w4.alloc (.cells #[.int .i64 o, .int .i64 l, .int .i64 k] 29) = V := ⟨_, rfl⟩
  obtain ⟨q4, hq4⟩ : ∃ q, w4.heap.size = q := ⟨_, rfl⟩
  have BV4 := aside (show Below V3.heap.size V3 V4 from by rw [← hV4]; exact bthen b4 (bnew w4 _))
  have KV4 := aside (show V4.heap[q4]? = some (.cells #[.int .i64 o, .int .i64 l, .int .i64 k] 29 (0, 0)) from by rw [← hV4, ← hq4]; exact heap_alloc_new w4 _)
  have HP4 := aside (HP.out.below (bthen BV3.out BV4.out))
  have BW4 := aside (bthen B0.out (bthen BV3.out BV4.out))
  have SX := aside (fun W (bb : Below V4.heap.size V4 W) => (show (W.cell? ⟨q, 0, none⟩ = some (.pointer (some ⟨pt, 0, none⟩)) ∧ W.cell? ⟨q, 1, none⟩ = some (.pointer (some ⟨pd, 0, none⟩))) ∧ (W.cell? ⟨q3, 0, none⟩ = some (.int .i64 o) ∧ W.cell? ⟨q3, 1, none⟩ = some (.int .i64 l) ∧ W.cell? ⟨q3, 2, none⟩ = some (.int .i64 k)) ∧ (W.cell? ⟨q4, 0, none⟩ = some (.int .i64 o) ∧ W.cell? ⟨q4, 1, none⟩ = some (.int .i64 l) ∧ W.cell? ⟨q4, 2, none⟩ = some (.int .i64 k)) from by
    have k0 := blk_on (blk_on K03.out BV4.out) bb
    exact ⟨by simp [World.cell?, k0], tri3 (blk_on (blk_on KV3.out BV4.out) bb), tri3 (blk_on KV4.out bb)⟩))
  clear b4 y0 y1 CT CD
  go_wp2_with fail
  refine wp_region_held_drew (S := fun W => ((W.cell? ⟨q, 0, none⟩ = some (.pointer (some ⟨pt, 0, none⟩)) ∧ W.cell? ⟨q, 1, none⟩ = some (.pointer (some ⟨pd, 0, none⟩))) ∧ (W.cell? ⟨q3, 0, none⟩ = some (.int .i64 o) ∧ W.cell? ⟨q3, 1, none⟩ = some (.int .i64 l) ∧ W.cell? ⟨q3, 2, none⟩ = some (.int .i64 k)) ∧ (W.cell? ⟨q4, 0, none⟩ = some (.int .i64 o) ∧ W.cell? ⟨q4, 1, none⟩ = some (.int .i64 l) ∧ W.cell? ⟨q4, 2, none⟩ = some (.int .i64 k))) ∧ Hid (Below V4.heap.size V4 W)) (by kernel_rfl) ⟨SX.out _ (Below.refl _ V4).drew, aside (Below.refl _ V4).drew⟩ (fun hHeld => ?_)
  refine wpAnyH_take (i := 0) (v := ?_) rfl (by kernel_rfl) (by kernel_rfl) (by kernel_rfl) (fun _ _ _ h => h) (Or.inl ⟨by rfl, ?_⟩) (by assumption) ?_
  rotate_left
  · intro w hSw
    go_simp
    try with_reducible rfl
  simp only [Act.put, List.getElem_toArray, List.getElem_cons_zero, List.setIfInBounds_toArray, List.set_cons_zero, List.set_cons_succ]
  refine wpAnyH_take (i := 1) (v := ?_) rfl (by kernel_rfl) (by kernel_rfl) (by kernel_rfl) (fun _ _ _ h => h) (Or.inl ⟨by rfl, ?_⟩) (by assumption) ?_
  rotate_left
  · intro w hSw
    go_simp
    try with_reducible rfl
  simp only [Act.put, List.getElem_toArray, List.getElem_cons_zero, List.getElem_cons_succ, List.setIfInBounds_toArray, List.set_cons_zero, List.set_cons_succ]
  refine wpAnyH_take (i := 2) (v := .bool true) rfl (by kernel_rfl) (by kernel_rfl) (by kernel_rfl) (fun _ _ _ h => h) (Or.inl ⟨by rfl, ?_⟩) (by assumption) ?_
  · intro w hSw
    go_simp
    try exact EQN _
  simp only [Act.put, List.getElem_toArray, List.getElem_cons_zero, List.getElem_cons_succ, List.setIfInBounds_toArray, List.set_cons_zero, List.set_cons_succ]
  refine wpAnyH_take (i := 3) (v := ?_) rfl (by kernel_rfl) (by kernel_rfl) (by kernel_rfl) (fun _ _ _ h => h) (Or.inl ⟨by rfl, ?_⟩) (by assumption) ?_
  rotate_left
  · intro w hSw
    go_simp
    try with_reducible rfl
  simp only [Act.put, List.getElem_toArray, List.getElem_cons_zero, List.getElem_cons_succ, List.setIfInBounds_toArray, List.set_cons_zero, List.set_cons_succ]
  refine wpAnyH_take (i := 4) (v := ?_) rfl (by kernel_rfl) (by kernel_rfl) (by kernel_rfl) (fun _ _ _ h => h) (Or.inl ⟨by rfl, ?_⟩) (by assumption) ?_
  rotate_left
  · intro w hSw
    go_simp
    try with_reducible rfl
  simp only [Act.put, List.getElem_toArray, List.getElem_cons_zero, List.getElem_cons_succ, List.setIfInBounds_toArray, List.set_cons_zero, List.set_cons_succ]
  refine wpAnyH_take (i := 5) (v := ?_) rfl (by kernel_rfl) (by kernel_rfl) (by kernel_rfl) (fun _ _ _ h => h) (Or.inl ⟨by rfl, ?_⟩) (by assumption) ?_
  rotate_left
  · intro w hSw
    go_simp
    try with_reducible rfl
  simp only [Act.put, List.getElem_toArray, List.getElem_cons_zero, List.getElem_cons_succ, List.setIfInBounds_toArray, List.set_cons_zero, List.set_cons_succ]
  refine wpAnyH_take (i := 6) (v := ?_) rfl (by kernel_rfl) (by kernel_rfl) (by kernel_rfl) (fun _ _ _ h => h) (Or.inl ⟨by rfl, ?_⟩) (by assumption) ?_
  rotate_left
  · intro w hSw
    go_simp
    try with_reducible rfl
  simp only [Act.put, List.getElem_toArray, List.getElem_cons_zero, List.getElem_cons_succ, List.setIfInBounds_toArray, List.set_cons_zero, List.set_cons_succ]
  refine wpAnyH_take (i := 7) (v := ?_) rfl (by kernel_rfl) (by kernel_rfl) (by kernel_rfl) (fun _ _ _ h => h) (Or.inl ⟨by rfl, ?_⟩) (by assumption) ?_
  rotate_left
  · intro w hSw
    go_simp
    try with_reducible rfl
  simp only [Act.put, List.getElem_toArray, List.getElem_cons_zero, List.getElem_cons_succ, List.setIfInBounds_toArray, List.set_cons_zero, List.set_cons_succ]
  refine wpAnyH_take (i := 8) (v := ?_) rfl (by kernel_rfl) (by kernel_rfl) (by kernel_rfl) (fun _ _ _ h => h) (Or.inl ⟨by rfl, ?_⟩) (by assumption) ?_
  rotate_left
  · intro w hSw
    go_simp
    try with_reducible rfl
  simp only [Act.put, List.getElem_toArray, List.getElem_cons_zero, List.getElem_cons_succ, List.setIfInBounds_toArray, List.set_cons_zero, List.set_cons_succ]
  refine wpAnyH_take (i := 9) (v := ?_) rfl (by kernel_rfl) (by kernel_rfl) (by kernel_rfl) (fun _ _ _ h => h) (Or.inl ⟨by rfl, ?_⟩) (by assumption) ?_
  rotate_left
  · intro w hSw
    go_simp
    try with_reducible rfl
  simp only [Act.put, List.getElem_toArray, List.getElem_cons_zero, List.getElem_cons_succ, List.setIfInBounds_toArray, List.set_cons_zero, List.set_cons_succ]
  refine wpAnyH_take (i := 10) (v := ?_) rfl (by kernel_rfl) (by kernel_rfl) (by kernel_rfl) (fun _ _ _ h => h) (Or.inl ⟨by rfl, ?_⟩) (by assumption) ?_
  rotate_left
  · intro w hSw
    go_simp
    try with_reducible rfl
  simp only [Act.put, List.getElem_toArray, List.getElem_cons_zero, List.getElem_cons_succ, List.setIfInBounds_toArray, List.set_cons_zero, List.set_cons_succ]
  refine wpAnyH_take (i := 11) (v := ?_) rfl (by kernel_rfl) (by kernel_rfl) (by kernel_rfl) (fun _ _ _ h => h) (Or.inl ⟨by rfl, ?_⟩) (by assumption) ?_
  rotate_left
  · intro w hSw
    go_simp
    try with_reducible rfl
  simp only [Act.put, List.getElem_toArray, List.getElem_cons_zero, List.getElem_cons_succ, List.setIfInBounds_toArray, List.set_cons_zero, List.set_cons_succ]
  refine wpAnyH_take (i := 12) (v := ?_) rfl (by kernel_rfl) (by kernel_rfl) (by kernel_rfl) (fun _ _ _ h => h) (Or.inl ⟨by rfl, ?_⟩) (by assumption) ?_
  rotate_left
  · intro w hSw
    go_simp
    try with_reducible rfl
  simp only [Act.put, List.getElem_toArray, List.getElem_cons_zero, List.getElem_cons_succ, List.setIfInBounds_toArray, List.set_cons_zero, List.set_cons_succ]
  refine wpAnyH_take (i := 13) (v := ?_) rfl (by kernel_rfl) (by kernel_rfl) (by kernel_rfl) (fun _ _ _ h => h) (Or.inl ⟨by rfl, ?_⟩) (by assumption) ?_
  rotate_left
  · intro w hSw
    go_simp
    try with_reducible rfl
  simp only [Act.put, List.getElem_toArray, List.getElem_cons_zero, List.getElem_cons_succ, List.setIfInBounds_toArray, List.set_cons_zero, List.set_cons_succ]
  refine wpAnyH_take (i := 14) (v := ?_) rfl (by kernel_rfl) (by kernel_rfl) (by kernel_rfl) (fun _ _ _ h => h) (Or.inl ⟨by rfl, ?_⟩) (by assumption) ?_
  rotate_left
  · intro w hSw
    go_simp
    try with_reducible rfl
  simp only [Act.put, List.getElem_toArray, List.getElem_cons_zero, List.getElem_cons_succ, List.setIfInBounds_toArray, List.set_cons_zero, List.set_cons_succ]
  refine wpAnyH_take (i := 15) (v := ?_) rfl (by kernel_rfl) (by kernel_rfl) (by kernel_rfl) (fun _ _ _ h => h) (Or.inl ⟨by rfl, ?_⟩) (by assumption) ?_
  rotate_left
  · intro w hSw
    go_simp
    try with_reducible rfl
  simp only [Act.put, List.getElem_toArray, List.getElem_cons_zero, List.getElem_cons_succ, List.setIfInBounds_toArray, List.set_cons_zero, List.set_cons_succ]
  refine wpAnyH_take (i := 17) (v := ?_) rfl (by kernel_rfl) (by kernel_rfl) (by kernel_rfl) (fun _ _ _ h => h) (Or.inl ⟨by rfl, ?_⟩) (by assumption) ?_
  rotate_left
  · intro w hSw
    go_simp
    try with_reducible rfl
  simp only [Act.put, List.getElem_toArray, List.getElem_cons_zero, List.getElem_cons_succ, List.setIfInBounds_toArray, List.set_cons_zero, List.set_cons_succ]
  refine wpAnyH_take (i := 18) (v := ?_) rfl (by kernel_rfl) (by kernel_rfl) (by kernel_rfl) (fun _ _ _ h => h) (Or.inl ⟨by rfl, ?_⟩) (by assumption) ?_
  rotate_left
  · intro w hSw
    go_simp
    try with_reducible rfl
  simp only [Act.put, List.getElem_toArray, List.getElem_cons_zero, List.getElem_cons_succ, List.setIfInBounds_toArray, List.set_cons_zero, List.set_cons_succ]
  refine wpAnyH_ready (rs := [16]) (by kernel_rfl) (by simp) ?_
  refine AllReadyH.cons rfl (fun K hK => ?_) AllReadyH.nil
  go_simp
  refine ((tlen_any (HP4.out.below hHeld.2.out).t)).mono ?_
  rintro e w9 ⟨rfl, rfl⟩
  refine hK.out _ _ (hHeld) (fun hHeld => ?_)
  clear hK K 
  refine wpAnyH_ready (rs := [19]) (by kernel_rfl) (by simp) ?_
  refine AllReadyH.cons rfl (fun K hK => ?_) AllReadyH.nil
  go_simp
  refine ((rlenT_any (HP4.out.below hHeld.2.out).d)).mono ?_
  rintro e w9 ⟨rfl, rfl⟩
  refine hK.out _ _ (hHeld) (fun hHeld => ?_)
  clear hK K 
  refine wpAnyH_take (i := 20) (v := ?_) rfl (by kernel_rfl) (by kernel_rfl) (by kernel_rfl) (fun _ _ _ h => h) (Or.inl ⟨by rfl, ?_⟩) (by assumption) ?_
  rotate_left
  · intro w hSw
    go_simp
    try with_reducible rfl
  simp only [Act.put, List.getElem_toArray, List.getElem_cons_zero, List.getElem_cons_succ, List.setIfInBounds_toArray, List.set_cons_zero, List.set_cons_succ]
  refine wpAnyH_take (i := 21) (v := ?_) rfl (by kernel_rfl) (by kernel_rfl) (by kernel_rfl) (fun _ _ _ h => h) (Or.inl ⟨by rfl, ?_⟩) (by assumption) ?_
  rotate_left
  · intro w hSw
    go_simp
    try with_reducible rfl
  simp only [Act.put, List.getElem_toArray, List.getElem_cons_zero, List.getElem_cons_succ, List.setIfInBounds_toArray, List.set_cons_zero, List.set_cons_succ]
  refine wpAnyH_take (i := 22) (v := ?_) rfl (by kernel_rfl) (by kernel_rfl) (by kernel_rfl) (fun _ _ _ h => h) (Or.inl ⟨by rfl, ?_⟩) (by assumption) ?_
  rotate_left
  · intro w hSw
    go_simp
    try with_reducible rfl
  simp only [Act.put, List.getElem_toArray, List.getElem_cons_zero, List.getElem_cons_succ, List.setIfInBounds_toArray, List.set_cons_zero, List.set_cons_succ]
  refine wpAnyH_done (by kernel_rfl) ?_ _
  have B9 := aside (bthen BW4.out hHeld.2.out)
  clear hHeld SX
  go_wp2
  go_ret
  exact ⟨rfl, by first | exact B9.out | (rw [hq]; exact B9.out) | (rw [← hq]; exact B9.out)⟩


end Go.Proofs.Ytoajgacofmodoaa

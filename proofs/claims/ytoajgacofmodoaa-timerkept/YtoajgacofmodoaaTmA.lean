/-
  New, Len, At, Set and Drop of the code's timer.
-/
import Derived.Test.YtoajgacofmodoaaTmM
import Derived.Test.YtoajgacofmodoaaYTrOrders
namespace Go.Proofs.Ytoajgacofmodoaa
open Go.RowKit
set_option linter.unusedVariables false

theorem zeroI (w : World) : (zeroValue 3).run Try.prog w = .ok (.int .i64 0) w := by kernel_rfl
theorem tri3 {w : World} {i : Nat} {a b c : Value} {T : TypeId} (h : w.heap[i]? = some (.cells #[a, b, c] T (0, 0))) : w.cell? ⟨i, 0, none⟩ = some a ∧ w.cell? ⟨i, 1, none⟩ = some b ∧ w.cell? ⟨i, 2, none⟩ = some c := by
  simp [World.cell?, h]
/-- What a look-up tells. -/
theorem tlook {w : World} {b n : Nat} {D : DataW Unit} {L : List Alm} (h : w.ownsMap Try.prog 29 RI b n D) (hr : Rep D L) (hg : Gl L) {m : Nam} (hn : wfN m) :
    (Instr.lookup 58 (.map (some b)) (nmV m) true).run Try.prog w = .ok (.tuple #[.int .i64 ((lookA m L).getD 0), .bool (lookA m L).isSome]) w := by
  obtain ⟨v, ps, hrun, hv⟩ := h.look_ok lawNm Try.underlying58 (zeroI w) (plainElem_int Try.underlying3 (by decide)) (keyOf_nm hn)
  obtain ⟨a, rfl, ha, hw⟩ := plainElem_int_inv Try.underlying3 hv
  have h3 := congrArg Prod.fst ha
  simp only at h3
  rw [hrun]
  cases hl : lookA m L with
  | none =>
    have h1 := hr.none hn (lookA_none hl)
    rw [Maps.atKey_of_not_has h1] at h3
    injection h3 with h3
    injection h3 with _ h3
    rw [h1, ← h3]
    rfl
  | some t =>
    have hm := lookA_mem hl
    have h1 := (hr.has m hn).2 ⟨t, hm⟩
    rw [hr.val m hn t hm] at h3
    injection h3 with h3
    injection h3 with _ h3
    rw [h1, ← h3]
    rfl

set_option maxHeartbeats 3200000 in
set_option maxRecDepth 100000 in
theorem tnew_any (w : World) : Calls Try.prog 7 #[] w fun e w' => ∃ p b, e = .returned (.pointer (some ⟨p, 0, none⟩)) ∧ w.heap.size ≤ p ∧ w.heap.size ≤ b ∧ Tim w' p b [] ∧ Below w.heap.size w w' := by
  have hmm := @run_makeMap Try.prog
  go_enter Try.func7, Try.ntmps7
  go_wp2
  go_ret
  have b1 := bnew w (.map #[] 0)
  have m1 := World.ownsMap_made w Try.prog 29 RI
  have b2 := bnew (w.alloc (.map #[] 0)) (.cells #[.map (some w.heap.size)] 60)
  exact ⟨_, _, rfl, by simp, Nat.le_refl _, ⟨by have h9 := heap_alloc_new (w.alloc (.map #[] 0)) (.cells #[.map (some w.heap.size)] 60); simpa using h9, Gl.nil, (fun a ha => by simp at ha), _, ownsMap_on m1 b2, Rep.zero⟩, bthen b1 b2⟩

set_option maxHeartbeats 3200000 in
set_option maxRecDepth 100000 in
theorem tlen_any {w : World} {p b : Nat} {L : List Alm} (h : Tim w p b L) : Calls Try.prog 10 #[.pointer (some ⟨p, 0, none⟩)] w fun e w' => e = .returned (.int .i64 (L.length : Int)) ∧ w' = w := by
  obtain ⟨h1, -, -, D, hm, hr⟩ := h
  have c0 := cell_one h1
  have hz := hr.size
  go_enter Try.func10, Try.ntmps10
  go_wp2_with (first | (at_len; refine wpList_len_own _ rfl _ 58 rfl 29 3 Try.underlying58 _ b _ D rfl hm ?_) | go_in)
  go_ret
  exact ⟨rfl, rfl⟩

set_option maxHeartbeats 3200000 in
set_option maxRecDepth 100000 in
theorem tat_any {w : World} {p b : Nat} {L : List Alm} (o l k : Int) (h : Tim w p b L) (hn : wfN (o, l, k)) : Calls Try.prog 9 #[.pointer (some ⟨p, 0, none⟩), .agg #[.int .i64 o, .int .i64 l, .int .i64 k]] w fun e w' => e = .returned (.tuple #[.int .i64 ((lookA (o, l, k) L).getD 0), .bool (lookA (o, l, k) L).isSome]) ∧ Below w.heap.size w w' := by
  obtain ⟨h1, hg, ho, D, hm, hr⟩ := h
  have B0 := aside (bnew w (.cells #[.int .i64 o, .int .i64 l, .int .i64 k] 29))
  have K0 := aside (heap_alloc_new w (.cells #[.int .i64 o, .int .i64 l, .int .i64 k] 29))
  have M0 := aside (blk_on h1 B0.out)
  have OW := aside (ownsMap_on hm B0.out)
  have HG := aside hg
  have HO := aside ho
  have HR := aside hr
  have HN := aside hn
  obtain ⟨V, hV⟩ : ∃ V, w.alloc (.cells #[.int .i64 o, .int .i64 l, .int .i64 k] 29) = V := ⟨_, rfl⟩
  obtain ⟨q, hq⟩ : ∃ q, w.heap.size = q := ⟨_, rfl⟩
  rw [hV] at B0 K0 M0 OW
  rw [hq] at K0
  have SX := aside (fun W (bb : Below V.heap.size V W) => (show W.cell? ⟨p, 0, none⟩ = some (.map (some b)) ∧ W.cell? ⟨q, 0, none⟩ = some (.int .i64 o) ∧ W.cell? ⟨q, 1, none⟩ = some (.int .i64 l) ∧ W.cell? ⟨q, 2, none⟩ = some (.int .i64 k) from by
    obtain ⟨n0, n1, n2⟩ := tri3 K0.out
    exact ⟨cell_in (cell_one M0.out) bb, cell_in n0 bb, cell_in n1 bb, cell_in n2 bb⟩))
  clear h1 hg ho hm hr hn
  have LK := aside (fun W (bb : Below V.heap.size V W) => tlook (ownsMap_on OW.out bb) HR.out HG.out HN.out)
  obtain ⟨x, hx⟩ : ∃ x, (lookA (o, l, k) L).getD 0 = x := ⟨_, rfl⟩
  obtain ⟨y, hy⟩ : ∃ y, (lookA (o, l, k) L).isSome = y := ⟨_, rfl⟩
  rw [hx, hy] at LK ⊢
  go_enter Try.func9, Try.ntmps9
  go_wp2_with fail
  try rw [hV]
  try rw [hq]
  refine wp_region_held_drew (S := fun W => (W.cell? ⟨p, 0, none⟩ = some (.map (some b)) ∧ W.cell? ⟨q, 0, none⟩ = some (.int .i64 o) ∧ W.cell? ⟨q, 1, none⟩ = some (.int .i64 l) ∧ W.cell? ⟨q, 2, none⟩ = some (.int .i64 k)) ∧ Hid (Below V.heap.size V W)) (by kernel_rfl) ⟨SX.out _ (Below.refl _ V).drew, aside (Below.refl _ V).drew⟩ (fun hHeld => ?_)
  refine wpAnyH_take (i := 0) (v := ?_) rfl (by kernel_rfl) (by kernel_rfl) (by kernel_rfl) (fun _ _ _ h => h) (Or.inl ⟨by rfl, ?_⟩) (by assumption) ?_
  rotate_left
  · intro w hSw
    go_simp
    try with_reducible rfl
  simp only [Act.put, List.getElem_toArray, List.getElem_cons_zero, List.setIfInBounds_toArray, List.set_cons_zero, List.set_cons_succ]
  refine wpAnyH_take (i := 1) (v := ?_) rfl (by kernel_rfl) (by kernel_rfl) (by kernel_rfl) (fun _ _ _ h => h) (Or.inl ⟨by rfl, ?_⟩) (by assumption) ?_
  rotate_left
  · intro w hSw
    go_simp
    try with_reducible rfl
  simp only [Act.put, List.getElem_toArray, List.getElem_cons_zero, List.getElem_cons_succ, List.setIfInBounds_toArray, List.set_cons_zero, List.set_cons_succ]
  refine wpAnyH_take (i := 2) (v := ?_) rfl (by kernel_rfl) (by kernel_rfl) (by kernel_rfl) (fun _ _ _ h => h) (Or.inl ⟨by rfl, ?_⟩) (by assumption) ?_
  rotate_left
  · intro w hSw
    go_simp
    try with_reducible rfl
  simp only [Act.put, List.getElem_toArray, List.getElem_cons_zero, List.getElem_cons_succ, List.setIfInBounds_toArray, List.set_cons_zero, List.set_cons_succ]
  refine wpAnyH_take (i := 3) (v := ?_) rfl (by kernel_rfl) (by kernel_rfl) (by kernel_rfl) (fun _ _ _ h => h) (Or.inl ⟨by rfl, ?_⟩) (by assumption) ?_
  rotate_left
  · intro w hSw
    go_simp
    try with_reducible rfl
  simp only [Act.put, List.getElem_toArray, List.getElem_cons_zero, List.getElem_cons_succ, List.setIfInBounds_toArray, List.set_cons_zero, List.set_cons_succ]
  refine wpAnyH_take (i := 4) (v := ?_) rfl (by kernel_rfl) (by kernel_rfl) (by kernel_rfl) (fun _ _ _ h => h) (Or.inl ⟨by rfl, ?_⟩) (by assumption) ?_
  rotate_left
  · intro w hSw
    go_simp
    try with_reducible rfl
  simp only [Act.put, List.getElem_toArray, List.getElem_cons_zero, List.getElem_cons_succ, List.setIfInBounds_toArray, List.set_cons_zero, List.set_cons_succ]
  refine wpAnyH_take (i := 5) (v := .tuple #[.int .i64 x, .bool y]) rfl (by kernel_rfl) (by kernel_rfl) (by kernel_rfl) (fun _ _ _ h => h) (Or.inl ⟨by rfl, ?_⟩) (by assumption) ?_
  · intro w hSw
    go_simp
    have h9 := LK.out _ hSw.2.out
    simp only [nmV] at h9
    rw [h9]
    rfl
  simp only [Act.put, List.getElem_toArray, List.getElem_cons_zero, List.getElem_cons_succ, List.setIfInBounds_toArray, List.set_cons_zero, List.set_cons_succ]
  refine wpAnyH_take (i := 6) (v := ?_) rfl (by kernel_rfl) (by kernel_rfl) (by kernel_rfl) (fun _ _ _ h => h) (Or.inl ⟨by rfl, ?_⟩) (by assumption) ?_
  rotate_left
  · intro w hSw
    go_simp
    try with_reducible rfl
  simp only [Act.put, List.getElem_toArray, List.getElem_cons_zero, List.getElem_cons_succ, List.setIfInBounds_toArray, List.set_cons_zero, List.set_cons_succ]
  refine wpAnyH_take (i := 7) (v := ?_) rfl (by kernel_rfl) (by kernel_rfl) (by kernel_rfl) (fun _ _ _ h => h) (Or.inl ⟨by rfl, ?_⟩) (by assumption) ?_
  rotate_left
  · intro w hSw
    go_simp
    try with_reducible rfl
  simp only [Act.put, List.getElem_toArray, List.getElem_cons_zero, List.getElem_cons_succ, List.setIfInBounds_toArray, List.set_cons_zero, List.set_cons_succ]
  refine wpAnyH_take (i := 8) (v := ?_) rfl (by kernel_rfl) (by kernel_rfl) (by kernel_rfl) (fun _ _ _ h => h) (Or.inl ⟨by rfl, ?_⟩) (by assumption) ?_
  rotate_left
  · intro w hSw
    go_simp
    try with_reducible rfl
  simp only [Act.put, List.getElem_toArray, List.getElem_cons_zero, List.getElem_cons_succ, List.setIfInBounds_toArray, List.set_cons_zero, List.set_cons_succ]
  refine wpAnyH_take (i := 9) (v := ?_) rfl (by kernel_rfl) (by kernel_rfl) (by kernel_rfl) (fun _ _ _ h => h) (Or.inl ⟨by rfl, ?_⟩) (by assumption) ?_
  rotate_left
  · intro w hSw
    go_simp
    try with_reducible rfl
  simp only [Act.put, List.getElem_toArray, List.getElem_cons_zero, List.getElem_cons_succ, List.setIfInBounds_toArray, List.set_cons_zero, List.set_cons_succ]
  refine wpAnyH_take (i := 10) (v := ?_) rfl (by kernel_rfl) (by kernel_rfl) (by kernel_rfl) (fun _ _ _ h => h) (Or.inl ⟨by rfl, ?_⟩) (by assumption) ?_
  rotate_left
  · intro w hSw
    go_simp
    try with_reducible rfl
  simp only [Act.put, List.getElem_toArray, List.getElem_cons_zero, List.getElem_cons_succ, List.setIfInBounds_toArray, List.set_cons_zero, List.set_cons_succ]
  refine wpAnyH_done (by kernel_rfl) ?_ _
  have B9 := aside (bthen B0.out hHeld.2.out)
  clear hHeld SX LK
  go_wp2
  go_ret2
  exact ⟨rfl, B9.out⟩

/-- What Set says. -/
def setE (t : Int) : Int := if tOk t then 0 else 1
theorem setE_no {t : Int} (h : ¬ tOk t) : setE t = 1 := by unfold setE; rw [if_neg h]
theorem setE_ok {t : Int} (h : tOk t) : setE t = 0 := by unfold setE; rw [if_pos h]
set_option maxHeartbeats 3200000 in
set_option maxRecDepth 100000 in
theorem tset_any {w : World} {p b : Nat} {L : List Alm} (o l k t : Int) (h : Tim w p b L) (hn : wfN (o, l, k)) (hl : L.length < 1000000) : Calls Try.prog 8 #[.pointer (some ⟨p, 0, none⟩), .agg #[.int .i64 o, .int .i64 l, .int .i64 k], .int .i64 t] w fun e w' => e = .returned (.int .i64 (setE t)) ∧ Tim w' p b (setA (o, l, k) t L) ∧ Keeps (fun x => x = b) w w' := by
  have HT := aside h
  obtain ⟨h1, hg, ho, D, hm, hr⟩ := h
  have B0 := aside (bnew w (.cells #[.int .i64 o, .int .i64 l, .int .i64 k] 29))
  have K0 := aside (heap_alloc_new w (.cells #[.int .i64 o, .int .i64 l, .int .i64 k] 29))
  have M0 := aside (blk_on h1 B0.out)
  have OW := aside (ownsMap_on hm B0.out)
  have HG := aside hg
  have HO := aside ho
  have HR := aside hr
  have HN := aside hn
  obtain ⟨V, hV⟩ : ∃ V, w.alloc (.cells #[.int .i64 o, .int .i64 l, .int .i64 k] 29) = V := ⟨_, rfl⟩
  obtain ⟨q, hq⟩ : ∃ q, w.heap.size = q := ⟨_, rfl⟩
  rw [hV] at B0 K0 M0 OW
  rw [hq] at K0
  have SX := aside (fun W (bb : Below V.heap.size V W) => (show W.cell? ⟨p, 0, none⟩ = some (.map (some b)) ∧ W.cell? ⟨q, 0, none⟩ = some (.int .i64 o) ∧ W.cell? ⟨q, 1, none⟩ = some (.int .i64 l) ∧ W.cell? ⟨q, 2, none⟩ = some (.int .i64 k) from by
    obtain ⟨n0, n1, n2⟩ := tri3 K0.out
    exact ⟨cell_in (cell_one M0.out) bb, cell_in n0 bb, cell_in n1 bb, cell_in n2 bb⟩))
  have NE := aside (show p ≠ b ∧ q ≠ b from by
    obtain ⟨es, clock, h4, -⟩ := OW.out
    refine ⟨fun e => ?_, fun e => ?_⟩
    · have := M0.out; rw [e, h4] at this; cases this
    · have := K0.out; rw [e, h4] at this; cases this)
  have SX := aside (fun W (bb : Keeps (fun x => x = b) V W) => (show W.cell? ⟨p, 0, none⟩ = some (.map (some b)) ∧ W.cell? ⟨q, 0, none⟩ = some (.int .i64 o) ∧ W.cell? ⟨q, 1, none⟩ = some (.int .i64 l) ∧ W.cell? ⟨q, 2, none⟩ = some (.int .i64 k) from by
    obtain ⟨n0, n1, n2⟩ := tri3 (blk_keep K0.out bb NE.out.2)
    exact ⟨cell_one (blk_keep M0.out bb NE.out.1), n0, n1, n2⟩))
  clear h1 hg ho hm hr hn
  by_cases h1 : t < 0
  · go_enter Try.func8, Try.ntmps8
    go_wp2
    go_ret
    try rw [hV]
    exact ⟨ret_i64 (setE_no (by unfold tOk; omega)).symm, by unfold setA; rw [if_neg (by unfold tOk; omega)]; exact HT.out.below B0.out, Keeps.of_below B0.out _⟩
  · by_cases h2 : 1099511627776 < t
    · go_enter Try.func8, Try.ntmps8
      go_wp2
      go_ret
      try rw [hV]
      exact ⟨ret_i64 (setE_no (by unfold tOk; omega)).symm, by unfold setA; rw [if_neg (by unfold tOk; omega)]; exact HT.out.below B0.out, Keeps.of_below B0.out _⟩
    · have HK := aside (show tOk t from ⟨by omega, by omega⟩)
      have HL := aside hl
      go_enter Try.func8, Try.ntmps8
      go_wp2_with fail
      try rw [hV]
      try rw [hq]
      refine wp_region_held_drew (S := fun W => (W.cell? ⟨p, 0, none⟩ = some (.map (some b)) ∧ W.cell? ⟨q, 0, none⟩ = some (.int .i64 o) ∧ W.cell? ⟨q, 1, none⟩ = some (.int .i64 l) ∧ W.cell? ⟨q, 2, none⟩ = some (.int .i64 k)) ∧ Hid (Keeps (fun x => x = b) V W)) (by kernel_rfl) ⟨SX.out _ (Keeps.refl _ V).drew, aside (Keeps.refl _ V).drew⟩ (fun hHeld => ?_)
      refine wpAnyH_take (i := 0) (v := ?_) rfl (by kernel_rfl) (by kernel_rfl) (by kernel_rfl) (fun _ _ _ h => h) (Or.inl ⟨by rfl, ?_⟩) (by assumption) ?_
      rotate_left
      · intro w hSw
        go_simp
        try with_reducible rfl
      simp only [Act.put, List.getElem_toArray, List.getElem_cons_zero, List.setIfInBounds_toArray, List.set_cons_zero, List.set_cons_succ]
      refine wpAnyH_take (i := 1) (v := ?_) rfl (by kernel_rfl) (by kernel_rfl) (by kernel_rfl) (fun _ _ _ h => h) (Or.inl ⟨by rfl, ?_⟩) (by assumption) ?_
      rotate_left
      · intro w hSw
        go_simp
        try with_reducible rfl
      simp only [Act.put, List.getElem_toArray, List.getElem_cons_zero, List.getElem_cons_succ, List.setIfInBounds_toArray, List.set_cons_zero, List.set_cons_succ]
      refine wpAnyH_take (i := 2) (v := ?_) rfl (by kernel_rfl) (by kernel_rfl) (by kernel_rfl) (fun _ _ _ h => h) (Or.inl ⟨by rfl, ?_⟩) (by assumption) ?_
      rotate_left
      · intro w hSw
        go_simp
        try with_reducible rfl
      simp only [Act.put, List.getElem_toArray, List.getElem_cons_zero, List.getElem_cons_succ, List.setIfInBounds_toArray, List.set_cons_zero, List.set_cons_succ]
      refine wpAnyH_take (i := 3) (v := ?_) rfl (by kernel_rfl) (by kernel_rfl) (by kernel_rfl) (fun _ _ _ h => h) (Or.inl ⟨by rfl, ?_⟩) (by assumption) ?_
      rotate_left
      · intro w hSw
        go_simp
        try with_reducible rfl
      simp only [Act.put, List.getElem_toArray, List.getElem_cons_zero, List.getElem_cons_succ, List.setIfInBounds_toArray, List.set_cons_zero, List.set_cons_succ]
      refine wpAnyH_take (i := 4) (v := ?_) rfl (by kernel_rfl) (by kernel_rfl) (by kernel_rfl) (fun _ _ _ h => h) (Or.inl ⟨by rfl, ?_⟩) (by assumption) ?_
      rotate_left
      · intro w hSw
        go_simp
        try with_reducible rfl
      simp only [Act.put, List.getElem_toArray, List.getElem_cons_zero, List.getElem_cons_succ, List.setIfInBounds_toArray, List.set_cons_zero, List.set_cons_succ]
      refine wpAnyH_take (i := 5) (v := ?_) rfl (by kernel_rfl) (by kernel_rfl) (by kernel_rfl) (fun _ _ _ h => h) (Or.inl ⟨by rfl, ?_⟩) (by assumption) ?_
      rotate_left
      · intro w hSw
        go_simp
        try with_reducible rfl
      simp only [Act.put, List.getElem_toArray, List.getElem_cons_zero, List.getElem_cons_succ, List.setIfInBounds_toArray, List.set_cons_zero, List.set_cons_succ]
      refine wpAnyH_ready (rs := [6]) (by kernel_rfl) (by simp) ?_
      refine AllReadyH.cons rfl (fun K hK => ?_) AllReadyH.nil
      go_simp
      obtain ⟨w9, hrun, hown, hturn⟩ := (show V.drew.ownsMap Try.prog 29 RI b L.length D from OW.out).store lawNm Try.underlying58 (by have := HL.out; unfold maxLen; omega) (keyOf_nm HN.out) (plainElem_int Try.underlying3 (a := t) (wf_of (by have := HK.out; unfold tOk at this; unfold i64B; omega)))
      simp only [nmV] at hrun
      rw [hrun]
      show K _ _
      have hkk := ((Keeps.refl _ V).drew).trans (keeps_turned hturn)
      refine hK.out _ _ ⟨SX.out _ hkk, aside hkk⟩ (fun hHeld => ?_)
      have OW9 := aside hown
      have K9 := aside hkk
      clear hK K hown hturn hrun hkk
      simp only [Act.put]
      refine wpAnyH_done (by kernel_rfl) ?_ _
      have RP := aside (HR.out.put (OW.out.tidy lawNm) HG.out HN.out t)
      have OS := aside (ownsMap_size OW9.out)
      rw [RP.out.size] at OS
      have M9 := aside (blk_keep M0.out K9.out NE.out.1)
      have KK := aside ((Keeps.of_below B0.out (fun x => x = b)).trans K9.out)
      have TF := aside (show Tim w9 p b (putA (o, l, k) t L) from ⟨M9.out, HG.out.put _ _, HO.out.put HN.out HK.out, _, OS.out, RP.out⟩)
      clear hHeld SX
      go_wp2
      go_ret
      exact ⟨ret_i64 (setE_ok HK.out).symm, by unfold setA; rw [if_pos HK.out]; exact TF.out, KK.out⟩

theorem tset_ok {w : World} {p b : Nat} {L : List Alm} (o l k t : Int) (h : Tim w p b L) (hn : wfN (o, l, k)) (ht : tOk t) (hl : L.length < 1000000) : Calls Try.prog 8 #[.pointer (some ⟨p, 0, none⟩), .agg #[.int .i64 o, .int .i64 l, .int .i64 k], .int .i64 t] w fun e w' => e = .returned (.int .i64 0) ∧ Tim w' p b (putA (o, l, k) t L) ∧ Keeps (fun x => x = b) w w' := by
  refine (tset_any o l k t h hn hl).mono fun e w' ⟨h1, h2, h3⟩ => ⟨?_, ?_, h3⟩
  · rw [h1, setE_ok ht]
  · unfold setA at h2; rw [if_pos ht] at h2; exact h2

set_option maxHeartbeats 3200000 in
set_option maxRecDepth 100000 in
theorem tdrop_any {w : World} {p b : Nat} {L : List Alm} (o l k : Int) (h : Tim w p b L) (hn : wfN (o, l, k)) : Calls Try.prog 12 #[.pointer (some ⟨p, 0, none⟩), .agg #[.int .i64 o, .int .i64 l, .int .i64 k]] w fun e w' => e = .returned (.bool (lookA (o, l, k) L).isSome) ∧ Tim w' p b (wo (o, l, k) L) ∧ Keeps (fun x => x = b) w w' := by
  obtain ⟨h1, hg, ho, D, hm, hr⟩ := h
  have B0 := aside (bnew w (.cells #[.int .i64 o, .int .i64 l, .int .i64 k] 29))
  have K0 := aside (heap_alloc_new w (.cells #[.int .i64 o, .int .i64 l, .int .i64 k] 29))
  have M0 := aside (blk_on h1 B0.out)
  have OW := aside (ownsMap_on hm B0.out)
  have HG := aside hg
  have HO := aside ho
  have HR := aside hr
  have HN := aside hn
  obtain ⟨V, hV⟩ : ∃ V, w.alloc (.cells #[.int .i64 o, .int .i64 l, .int .i64 k] 29) = V := ⟨_, rfl⟩
  obtain ⟨q, hq⟩ : ∃ q, w.heap.size = q := ⟨_, rfl⟩
  rw [hV] at B0 K0 M0 OW
  rw [hq] at K0
  have SX := aside (fun W (bb : Below V.heap.size V W) => (show W.cell? ⟨p, 0, none⟩ = some (.map (some b)) ∧ W.cell? ⟨q, 0, none⟩ = some (.int .i64 o) ∧ W.cell? ⟨q, 1, none⟩ = some (.int .i64 l) ∧ W.cell? ⟨q, 2, none⟩ = some (.int .i64 k) from by
    obtain ⟨n0, n1, n2⟩ := tri3 K0.out
    exact ⟨cell_in (cell_one M0.out) bb, cell_in n0 bb, cell_in n1 bb, cell_in n2 bb⟩))
  clear h1 hg ho hm hr hn
  have LK := aside (fun W (bb : Below V.heap.size V W) => tlook (ownsMap_on OW.out bb) HR.out HG.out HN.out)
  obtain ⟨x, hx⟩ : ∃ x, (lookA (o, l, k) L).getD 0 = x := ⟨_, rfl⟩
  obtain ⟨y, hy⟩ : ∃ y, (lookA (o, l, k) L).isSome = y := ⟨_, rfl⟩
  rw [hx, hy] at LK
  rw [hy]
  go_enter Try.func12, Try.ntmps12
  go_wp2_with fail
  try rw [hV]
  try rw [hq]
  refine wp_region_held_drew (S := fun W => (W.cell? ⟨p, 0, none⟩ = some (.map (some b)) ∧ W.cell? ⟨q, 0, none⟩ = some (.int .i64 o) ∧ W.cell? ⟨q, 1, none⟩ = some (.int .i64 l) ∧ W.cell? ⟨q, 2, none⟩ = some (.int .i64 k)) ∧ Hid (Below V.heap.size V W)) (by kernel_rfl) ⟨SX.out _ (Below.refl _ V).drew, aside (Below.refl _ V).drew⟩ (fun hHeld => ?_)
  refine wpAnyH_take (i := 0) (v := ?_) rfl (by kernel_rfl) (by kernel_rfl) (by kernel_rfl) (fun _ _ _ h => h) (Or.inl ⟨by rfl, ?_⟩) (by assumption) ?_
  rotate_left
  · intro w hSw
    go_simp
    try with_reducible rfl
  simp only [Act.put, List.getElem_toArray, List.getElem_cons_zero, List.setIfInBounds_toArray, List.set_cons_zero, List.set_cons_succ]
  refine wpAnyH_take (i := 1) (v := ?_) rfl (by kernel_rfl) (by kernel_rfl) (by kernel_rfl) (fun _ _ _ h => h) (Or.inl ⟨by rfl, ?_⟩) (by assumption) ?_
  rotate_left
  · intro w hSw
    go_simp
    try with_reducible rfl
  simp only [Act.put, List.getElem_toArray, List.getElem_cons_zero, List.getElem_cons_succ, List.setIfInBounds_toArray, List.set_cons_zero, List.set_cons_succ]
  refine wpAnyH_take (i := 2) (v := ?_) rfl (by kernel_rfl) (by kernel_rfl) (by kernel_rfl) (fun _ _ _ h => h) (Or.inl ⟨by rfl, ?_⟩) (by assumption) ?_
  rotate_left
  · intro w hSw
    go_simp
    try with_reducible rfl
  simp only [Act.put, List.getElem_toArray, List.getElem_cons_zero, List.getElem_cons_succ, List.setIfInBounds_toArray, List.set_cons_zero, List.set_cons_succ]
  refine wpAnyH_take (i := 3) (v := ?_) rfl (by kernel_rfl) (by kernel_rfl) (by kernel_rfl) (fun _ _ _ h => h) (Or.inl ⟨by rfl, ?_⟩) (by assumption) ?_
  rotate_left
  · intro w hSw
    go_simp
    try with_reducible rfl
  simp only [Act.put, List.getElem_toArray, List.getElem_cons_zero, List.getElem_cons_succ, List.setIfInBounds_toArray, List.set_cons_zero, List.set_cons_succ]
  refine wpAnyH_take (i := 4) (v := ?_) rfl (by kernel_rfl) (by kernel_rfl) (by kernel_rfl) (fun _ _ _ h => h) (Or.inl ⟨by rfl, ?_⟩) (by assumption) ?_
  rotate_left
  · intro w hSw
    go_simp
    try with_reducible rfl
  simp only [Act.put, List.getElem_toArray, List.getElem_cons_zero, List.getElem_cons_succ, List.setIfInBounds_toArray, List.set_cons_zero, List.set_cons_succ]
  refine wpAnyH_take (i := 5) (v := .tuple #[.int .i64 x, .bool y]) rfl (by kernel_rfl) (by kernel_rfl) (by kernel_rfl) (fun _ _ _ h => h) (Or.inl ⟨by rfl, ?_⟩) (by assumption) ?_
  · intro w hSw
    go_simp
    have h9 := LK.out _ hSw.2.out
    simp only [nmV] at h9
    rw [h9]
    rfl
  simp only [Act.put, List.getElem_toArray, List.getElem_cons_zero, List.getElem_cons_succ, List.setIfInBounds_toArray, List.set_cons_zero, List.set_cons_succ]
  refine wpAnyH_take (i := 6) (v := ?_) rfl (by kernel_rfl) (by kernel_rfl) (by kernel_rfl) (fun _ _ _ h => h) (Or.inl ⟨by rfl, ?_⟩) (by assumption) ?_
  rotate_left
  · intro w hSw
    go_simp
    try with_reducible rfl
  simp only [Act.put, List.getElem_toArray, List.getElem_cons_zero, List.getElem_cons_succ, List.setIfInBounds_toArray, List.set_cons_zero, List.set_cons_succ]
  refine wpAnyH_take (i := 7) (v := ?_) rfl (by kernel_rfl) (by kernel_rfl) (by kernel_rfl) (fun _ _ _ h => h) (Or.inl ⟨by rfl, ?_⟩) (by assumption) ?_
  rotate_left
  · intro w hSw
    go_simp
    try with_reducible rfl
  simp only [Act.put, List.getElem_toArray, List.getElem_cons_zero, List.getElem_cons_succ, List.setIfInBounds_toArray, List.set_cons_zero, List.set_cons_succ]
  refine wpAnyH_take (i := 8) (v := ?_) rfl (by kernel_rfl) (by kernel_rfl) (by kernel_rfl) (fun _ _ _ h => h) (Or.inl ⟨by rfl, ?_⟩) (by assumption) ?_
  rotate_left
  · intro w hSw
    go_simp
    try with_reducible rfl
  simp only [Act.put, List.getElem_toArray, List.getElem_cons_zero, List.getElem_cons_succ, List.setIfInBounds_toArray, List.set_cons_zero, List.set_cons_succ]
  refine wpAnyH_take (i := 9) (v := ?_) rfl (by kernel_rfl) (by kernel_rfl) (by kernel_rfl) (fun _ _ _ h => h) (Or.inl ⟨by rfl, ?_⟩) (by assumption) ?_
  rotate_left
  · intro w hSw
    go_simp
    try with_reducible rfl
  simp only [Act.put, List.getElem_toArray, List.getElem_cons_zero, List.getElem_cons_succ, List.setIfInBounds_toArray, List.set_cons_zero, List.set_cons_succ]
  refine wpAnyH_take (i := 10) (v := ?_) rfl (by kernel_rfl) (by kernel_rfl) (by kernel_rfl) (fun _ _ _ h => h) (Or.inl ⟨by rfl, ?_⟩) (by assumption) ?_
  rotate_left
  · intro w hSw
    go_simp
    try with_reducible rfl
  simp only [Act.put, List.getElem_toArray, List.getElem_cons_zero, List.getElem_cons_succ, List.setIfInBounds_toArray, List.set_cons_zero, List.set_cons_succ]
  refine wpAnyH_done (by kernel_rfl) ?_ _
  clear hHeld SX LK hx hy
  have NE := aside (show p ≠ b ∧ q ≠ b from by
    obtain ⟨es, clock, h4, -⟩ := OW.out
    refine ⟨fun e => ?_, fun e => ?_⟩
    · have := M0.out; rw [e, h4] at this; cases this
    · have := K0.out; rw [e, h4] at this; cases this)
  have SX := aside (fun W (bb : Keeps (fun x => x = b) V W) => (show W.cell? ⟨p, 0, none⟩ = some (.map (some b)) ∧ W.cell? ⟨q, 0, none⟩ = some (.int .i64 o) ∧ W.cell? ⟨q, 1, none⟩ = some (.int .i64 l) ∧ W.cell? ⟨q, 2, none⟩ = some (.int .i64 k) from by
    obtain ⟨n0, n1, n2⟩ := tri3 (blk_keep K0.out bb NE.out.2)
    exact ⟨cell_one (blk_keep M0.out bb NE.out.1), n0, n1, n2⟩))
  go_wp2_with fail
  refine wp_region_held_drew (S := fun W => (W.cell? ⟨p, 0, none⟩ = some (.map (some b)) ∧ W.cell? ⟨q, 0, none⟩ = some (.int .i64 o) ∧ W.cell? ⟨q, 1, none⟩ = some (.int .i64 l) ∧ W.cell? ⟨q, 2, none⟩ = some (.int .i64 k)) ∧ Hid (Keeps (fun x => x = b) V W)) (by kernel_rfl) ⟨SX.out _ (Keeps.refl _ V).drew.drew, aside (Keeps.refl _ V).drew.drew⟩ (fun hHeld => ?_)
  refine wpAnyH_take (i := 0) (v := ?_) rfl (by kernel_rfl) (by kernel_rfl) (by kernel_rfl) (fun _ _ _ h => h) (Or.inl ⟨by rfl, ?_⟩) (by assumption) ?_
  rotate_left
  · intro w hSw
    go_simp
    try with_reducible rfl
  simp only [Act.put, List.getElem_toArray, List.getElem_cons_zero, List.setIfInBounds_toArray, List.set_cons_zero, List.set_cons_succ]
  refine wpAnyH_take (i := 1) (v := ?_) rfl (by kernel_rfl) (by kernel_rfl) (by kernel_rfl) (fun _ _ _ h => h) (Or.inl ⟨by rfl, ?_⟩) (by assumption) ?_
  rotate_left
  · intro w hSw
    go_simp
    try with_reducible rfl
  simp only [Act.put, List.getElem_toArray, List.getElem_cons_zero, List.getElem_cons_succ, List.setIfInBounds_toArray, List.set_cons_zero, List.set_cons_succ]
  refine wpAnyH_take (i := 2) (v := ?_) rfl (by kernel_rfl) (by kernel_rfl) (by kernel_rfl) (fun _ _ _ h => h) (Or.inl ⟨by rfl, ?_⟩) (by assumption) ?_
  rotate_left
  · intro w hSw
    go_simp
    try with_reducible rfl
  simp only [Act.put, List.getElem_toArray, List.getElem_cons_zero, List.getElem_cons_succ, List.setIfInBounds_toArray, List.set_cons_zero, List.set_cons_succ]
  refine wpAnyH_take (i := 3) (v := ?_) rfl (by kernel_rfl) (by kernel_rfl) (by kernel_rfl) (fun _ _ _ h => h) (Or.inl ⟨by rfl, ?_⟩) (by assumption) ?_
  rotate_left
  · intro w hSw
    go_simp
    try with_reducible rfl
  simp only [Act.put, List.getElem_toArray, List.getElem_cons_zero, List.getElem_cons_succ, List.setIfInBounds_toArray, List.set_cons_zero, List.set_cons_succ]
  refine wpAnyH_take (i := 4) (v := ?_) rfl (by kernel_rfl) (by kernel_rfl) (by kernel_rfl) (fun _ _ _ h => h) (Or.inl ⟨by rfl, ?_⟩) (by assumption) ?_
  rotate_left
  · intro w hSw
    go_simp
    try with_reducible rfl
  simp only [Act.put, List.getElem_toArray, List.getElem_cons_zero, List.getElem_cons_succ, List.setIfInBounds_toArray, List.set_cons_zero, List.set_cons_succ]
  refine wpAnyH_ready (rs := [5]) (by kernel_rfl) (by simp) ?_
  refine AllReadyH.cons rfl (fun K hK => ?_) AllReadyH.nil
  go_simp
  obtain ⟨w9, hrun, hown, hturn⟩ := (show V.drew.drew.ownsMap Try.prog 29 RI b L.length D from OW.out).drop lawNm Try.underlying58 (keyOf_nm HN.out) 0
  simp only [nmV] at hrun
  rw [hrun]
  show K _ _
  have hkk := ((Keeps.refl _ V).drew.drew).trans (keeps_turned hturn)
  refine hK.out _ _ ⟨SX.out _ hkk, aside hkk⟩ (fun hHeld => ?_)
  have OW9 := aside hown
  have K9 := aside hkk
  clear hK K hown hturn hrun hkk
  simp only [Act.put]
  refine wpAnyH_done (by kernel_rfl) ?_ _
  have RP := aside (HR.out.del (OW.out.tidy lawNm) HG.out HN.out)
  have OS := aside (ownsMap_size OW9.out)
  rw [RP.out.size] at OS
  have M9 := aside (blk_keep M0.out K9.out NE.out.1)
  have KK := aside ((Keeps.of_below B0.out (fun x => x = b)).trans K9.out)
  have TF := aside (show Tim w9 p b (wo (o, l, k) L) from ⟨M9.out, HG.out.wo _, HO.out.wo _, _, OS.out, RP.out⟩)
  clear hHeld SX
  go_wp2
  go_ret
  exact ⟨rfl, TF.out, KK.out⟩

end Go.Proofs.Ytoajgacofmodoaa

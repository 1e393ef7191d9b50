/-
  One call at both ghosts: Wrote, Written, another one.
-/
import Derived.Test.YtfkdhambbpkmpaaGvX
namespace Go.Proofs.Ytfkdhambbpkmpaa
open Go.RowKit
set_option linter.unusedVariables false

theorem nine {w : World} {i : Nat} {a b c d e f g h j : Value} {T : TypeId} (H : w.heap[i]? = some (.cells #[a, b, c, d, e, f, g, h, j] T (0, 0))) : w.cell? ⟨i, 0, none⟩ = some a ∧ w.cell? ⟨i, 1, none⟩ = some b ∧ w.cell? ⟨i, 2, none⟩ = some c ∧ w.cell? ⟨i, 3, none⟩ = some d ∧ w.cell? ⟨i, 4, none⟩ = some e ∧ w.cell? ⟨i, 5, none⟩ = some f ∧ w.cell? ⟨i, 6, none⟩ = some g ∧ w.cell? ⟨i, 7, none⟩ = some h ∧ w.cell? ⟨i, 8, none⟩ = some j :=
  ⟨by rw [cell_of_row _ _ 0 _ _ _ H]; rfl, by rw [cell_of_row _ _ 1 _ _ _ H]; rfl, by rw [cell_of_row _ _ 2 _ _ _ H]; rfl, by rw [cell_of_row _ _ 3 _ _ _ H]; rfl, by rw [cell_of_row _ _ 4 _ _ _ H]; rfl, by rw [cell_of_row _ _ 5 _ _ _ H]; rfl, by rw [cell_of_row _ _ 6 _ _ _ H]; rfl, by rw [cell_of_row _ _ 7 _ _ _ H]; rfl, by rw [cell_of_row _ _ 8 _ _ _ H]; rfl⟩
theorem wroL_len (L : List En) (e : En) : (wroL L e).length ≤ L.length + 1 := by
  unfold wroL
  split
  · split
    · omega
    · simp
  · omega
theorem wf_in {w : World} {o : Gop} (h : o.In w) : wfW (wrOf o.e) := by
  obtain ⟨-, h1, h2, h3⟩ := h
  refine ⟨?_, h2, h3⟩
  show o.e.k.size ≤ maxLen
  unfold maxLen
  omega
/-- A box that no part of a pair is. -/
theorem Gs.nob {w : World} {B p m q N : Nat} {va : Value} {L : List En} {H HR : Nat → Hd} (h : Gs w B p m q N va L H HR) {b : Nat} {cs : Array Value} (hb : w.heap[b]? = some (.cells cs 34 (0, 0))) : ¬ foot p m q va H HR b := by
  intro hk
  rcases hk with rfl | rfl | rfl | hk | ⟨i, hi, hk | hk⟩
  · have h3 := h.g.bx; rw [hb] at h3; injection h3 with h3; injection h3 with _ h3; exact absurd h3 (by decide)
  · exact h.g.mapAt hb
  · have h3 := h.r.bx; rw [hb] at h3; injection h3 with h3; injection h3 with _ h3; exact absurd h3 (by decide)
  · obtain ⟨-, cs, h3⟩ := row_blkM h.r.all hk; rw [hb] at h3; injection h3 with h3; injection h3 with _ h3; exact absurd h3 (by decide)
  · obtain ⟨-, cs, h3⟩ := row_blkM (h.g.held i hi) hk; rw [hb] at h3; injection h3 with h3; injection h3 with _ h3; exact absurd h3 (by decide)
  · obtain ⟨-, cs, h3⟩ := row_blkM (h.r.held i hi) hk; rw [hb] at h3; injection h3 with h3; injection h3 with _ h3; exact absurd h3 (by decide)
theorem Gs.oneW {w : World} {B p m q N : Nat} {va : Value} {L : List En} {H HR : Nat → Hd} (h : Gs w B p m q N va L H HR) : OneW L := h.g.oneW
/-- Wrote of the code's, then of the document's. -/
theorem Gs.wrote {w : World} {B p m q N : Nat} {va : Value} {L : List En} {H HR : Nat → Hd} {w0 w1 w2 : World} {e : En} {va' : Value} (h : Gs w B p m q N va L H HR) (bb : Below w0.heap.size w0 w) (g1 : Gh w1 B p m (N + 1) (wroL L e) H) (k1 : Keeps (fun x => x = m) w w1) (r2 : Rh w2 B q va' (wroL L e) HR) (k2 : Keeps (fun k => k = q ∨ va.ownBlock = some k) w1 w2) (alt : va'.ownBlock = va.ownBlock ∨ ∃ g, va'.ownBlock = some g ∧ w1.heap.size ≤ g) : StepOut w0 w2 B p m q N va L H HR := by
  have r1 : Rh w1 B q va L HR := h.rm k1
  have g2 := ghKeep g1 r1 h.ap k2
  refine ⟨N + 1, va', _, H, HR, ⟨g2, r2, h.same, fun i hi j hj h9 => ?_⟩, Nat.le_refl _, wroL_len L e, ?_, fun k hk => ?_⟩
  · rcases alt with h1 | ⟨g, h1, h2⟩
    · exact h.ap i hi j hj (by rw [← h1]; exact h9)
    · rw [h1] at h9
      injection h9 with h9
      obtain ⟨-, cs, h4⟩ := row_blkM (g1.held i hi) hj
      have := lt_of_blk h4
      omega
  · exact (((Keeps.of_below bb (turnsG p m q va)).trans (k1.mono (fun k _ e => .inr (.inl e)))).trans (k2.mono (fun k _ e => by
      rcases e with e | e
      · exact .inr (.inr (.inl e))
      · exact .inr (.inr (.inr e)))))
  · rcases hk with hk | hk | hk | hk | hk
    · exact .inl (.inl hk)
    · exact .inl (.inr (.inl hk))
    · exact .inl (.inr (.inr (.inl hk)))
    · rcases alt with h1 | ⟨g, h1, h2⟩
      · exact .inl (.inr (.inr (.inr (.inl (by rw [← h1]; exact hk)))))
      · rw [h1] at hk
        injection hk with hk
        have := k1.size
        have := bb.size
        exact .inr (by omega)
    · exact .inl (.inr (.inr (.inr (.inr hk))))
set_option maxHeartbeats 8000000 in
set_option maxRecDepth 100000 in
theorem step_wrote {w : World} {B p m q N : Nat} {va : Value} {L : List En} {H HR : Nat → Hd} (h : Gs w B p m q N va L H HR) (o : Gop) (ho : o.In w) (hN : N < maxLen) (hL : L.length ≤ 1073741824) : Calls Try.prog 8 #[.pointer (some ⟨p, 0, none⟩), .pointer (some ⟨q, 0, none⟩), .agg #[.int .i64 0, .int .i64 o.node, .string o.e.k, .int .i64 o.e.c, .int .i64 o.e.n, .string o.e.v, .bool o.e.d, .slice o.l.a o.l.n o.l.c, .bool o.snd]] w fun e w' => e = .returned (.bool true) ∧ StepOut w w' B p m q N va L H HR := by
  obtain ⟨b, hb⟩ : ∃ b, w.heap.size = b := ⟨_, rfl⟩
  obtain ⟨V, hV⟩ : ∃ V, w.alloc (.cells #[.int .i64 0, .int .i64 o.node, .string o.e.k, .int .i64 o.e.c, .int .i64 o.e.n, .string o.e.v, .bool o.e.d, .slice o.l.a o.l.n o.l.c, .bool o.snd] 34) = V := ⟨_, rfl⟩
  have kb := heap_alloc_new w (.cells #[.int .i64 0, .int .i64 o.node, .string o.e.k, .int .i64 o.e.c, .int .i64 o.e.n, .string o.e.v, .bool o.e.d, .slice o.l.a o.l.n o.l.c, .bool o.snd] 34)
  have bb := bnew w (.cells #[.int .i64 0, .int .i64 o.node, .string o.e.k, .int .i64 o.e.c, .int .i64 o.e.n, .string o.e.v, .bool o.e.d, .slice o.l.a o.l.n o.l.c, .bool o.snd] 34)
  rw [hV] at kb bb
  rw [hb] at kb
  have KB := aside kb
  have BB := aside bb
  have HG0 := aside h
  have HG := aside (h.on bb)
  have HO := aside ho
  obtain ⟨c0, c1, c2, c3, c4, c5, c6, c7, c8⟩ := nine kb
  have HN := aside hN
  have HL := aside hL
  clear hN hL
  clear h ho kb bb
  go_enter Try.func8, Try.ntmps8
  go_upto_region 1 with fail
  try rw [hV]
  try rw [hb]
  clear hV hb
  go_wp2_with fail
  have SX := aside (fun (W : World) (kk : Keeps (turnsG p m q va) V W) => (show W.cell? ⟨b, 0, none⟩ = some (.int .i64 0) ∧ W.cell? ⟨b, 1, none⟩ = some (.int .i64 o.node) ∧ W.cell? ⟨b, 2, none⟩ = some (.string o.e.k) ∧ W.cell? ⟨b, 3, none⟩ = some (.int .i64 o.e.c) ∧ W.cell? ⟨b, 4, none⟩ = some (.int .i64 o.e.n) ∧ W.cell? ⟨b, 5, none⟩ = some (.string o.e.v) ∧ W.cell? ⟨b, 6, none⟩ = some (.bool o.e.d) ∧ W.cell? ⟨b, 7, none⟩ = some (.slice o.l.a o.l.n o.l.c) ∧ W.cell? ⟨b, 8, none⟩ = some (.bool o.snd) from nine (blk_keep KB.out kk (fun h9 => HG.out.nob KB.out (turnsG_foot h9)))))
  obtain ⟨cq, hcq⟩ : ∃ c, wroQ L o.e = c := ⟨_, rfl⟩
  have hb0 : Below V.heap.size V V.drew := (Below.refl _ V).drew
  refine wp_region_held_drew (S := fun W => (W.cell? ⟨b, 0, none⟩ = some (.int .i64 0) ∧ W.cell? ⟨b, 1, none⟩ = some (.int .i64 o.node) ∧ W.cell? ⟨b, 2, none⟩ = some (.string o.e.k) ∧ W.cell? ⟨b, 3, none⟩ = some (.int .i64 o.e.c) ∧ W.cell? ⟨b, 4, none⟩ = some (.int .i64 o.e.n) ∧ W.cell? ⟨b, 5, none⟩ = some (.string o.e.v) ∧ W.cell? ⟨b, 6, none⟩ = some (.bool o.e.d) ∧ W.cell? ⟨b, 7, none⟩ = some (.slice o.l.a o.l.n o.l.c) ∧ W.cell? ⟨b, 8, none⟩ = some (.bool o.snd))) (by kernel_rfl) (SX.out _ (Keeps.of_below hb0 _)) (fun hHeld => ?_)
  refine wpAnyH_take (i := 0) (v := ?_) rfl (by kernel_rfl) (by kernel_rfl) (by kernel_rfl) (fun _ _ _ h => h) (Or.inl ⟨by rfl, ?_⟩) (by assumption) ?_
  rotate_left
  · intro w hSw
    go_simp
    try with_reducible rfl
  simp only [Act.put, List.getElem_toArray, List.getElem_cons_zero, List.setIfInBounds_toArray, List.set_cons_zero, List.set_cons_succ]
  refine wpAnyH_take (i := 1) (v := ?_) rfl (by kernel_rfl) (by kernel_rfl) (by kernel_rfl) (fun _ _ _ h => h) (Or.inl ⟨by rfl, ?_⟩) (by assumption) ?_
  rotate_left
  · intro w hSw
    go_simp
    try with_reducible rfl
  simp only [Act.put, List.getElem_toArray, List.getElem_cons_zero, List.getElem_cons_succ, List.setIfInBounds_toArray, List.set_cons_zero, List.set_cons_succ]
  refine wpAnyH_take (i := 2) (v := ?_) rfl (by kernel_rfl) (by kernel_rfl) (by kernel_rfl) (fun _ _ _ h => h) (Or.inl ⟨by rfl, ?_⟩) (by assumption) ?_
  rotate_left
  · intro w hSw
    go_simp
    try with_reducible rfl
  simp only [Act.put, List.getElem_toArray, List.getElem_cons_zero, List.getElem_cons_succ, List.setIfInBounds_toArray, List.set_cons_zero, List.set_cons_succ]
  clear c0 c1 c2 c3 c4 c5 c6 c7 c8
  refine wpAnyH_take (i := 4) (v := ?_) rfl (by kernel_rfl) (by kernel_rfl) (by kernel_rfl) (fun _ _ _ h => h) (Or.inl ⟨by rfl, ?_⟩) (by assumption) ?_
  rotate_left
  · intro w hSw
    go_simp
    try with_reducible rfl
  simp only [Act.put, List.getElem_toArray, List.getElem_cons_zero, List.getElem_cons_succ, List.setIfInBounds_toArray, List.set_cons_zero, List.set_cons_succ]
  refine wpAnyH_take (i := 5) (v := ?_) rfl (by kernel_rfl) (by kernel_rfl) (by kernel_rfl) (fun _ _ _ h => h) (Or.inl ⟨by rfl, ?_⟩) (by assumption) ?_
  rotate_left
  · intro w hSw
    go_simp
    try with_reducible rfl
  simp only [Act.put, List.getElem_toArray, List.getElem_cons_zero, List.getElem_cons_succ, List.setIfInBounds_toArray, List.set_cons_zero, List.set_cons_succ]
  refine wpAnyH_take (i := 6) (v := ?_) rfl (by kernel_rfl) (by kernel_rfl) (by kernel_rfl) (fun _ _ _ h => h) (Or.inl ⟨by rfl, ?_⟩) (by assumption) ?_
  rotate_left
  · intro w hSw
    go_simp
    try with_reducible rfl
  simp only [Act.put, List.getElem_toArray, List.getElem_cons_zero, List.getElem_cons_succ, List.setIfInBounds_toArray, List.set_cons_zero, List.set_cons_succ]
  refine wpAnyH_ready (rs := [3]) (by kernel_rfl) (by simp) ?_
  refine AllReadyH.cons rfl (fun K hK => ?_) AllReadyH.nil
  go_simp
  refine (gwrote_any (HG.out.on hb0).g o.e HO.out.2.1 HN.out).mono ?_
  rintro r w1 ⟨rfl, G1, k1⟩
  rw [hcq]
  have kk1 := (Keeps.of_below hb0 (turnsG p m q va)).trans (k1.mono (fun k _ e => .inr (.inl e)))
  have G1 := aside G1
  have K1 := aside k1
  have KK1 := aside kk1
  refine hK.out _ _ (SX.out _ kk1) (fun hHeld => ?_)
  clear hK K k1 kk1
  try simp only [Act.put, List.getElem_toArray, List.getElem_cons_zero, List.getElem_cons_succ, List.setIfInBounds_toArray, List.set_cons_zero, List.set_cons_succ]
  refine wpAnyH_ready (rs := [7]) (by kernel_rfl) (by simp) ?_
  refine AllReadyH.cons rfl (fun K hK => ?_) AllReadyH.nil
  go_simp
  refine (rhwrote_any ((HG.out.on hb0).rm K1.out) (HG.out.oneW) o.e HL.out).mono ?_
  rintro r w2 ⟨rfl, va', R2, k2, alt⟩
  rw [hcq]
  have FIN := aside ((HG.out.on hb0).wrote (bthen BB.out hb0) G1.out K1.out R2 k2 alt)
  refine hK.out _ _ (SX.out _ (KK1.out.trans (k2.mono (fun k _ e => by
    rcases e with e | e
    · exact .inr (.inr (.inl e))
    · exact .inr (.inr (.inr e)))))) (fun hHeld => ?_)
  clear hK K k2 R2 alt
  try simp only [Act.put, List.getElem_toArray, List.getElem_cons_zero, List.getElem_cons_succ, List.setIfInBounds_toArray, List.set_cons_zero, List.set_cons_succ]
  have hq1 : (cq == cq) = true := by simp
  refine wpAnyH_take (i := 8) (v := ?_) rfl (by kernel_rfl) (by kernel_rfl) (by kernel_rfl) (fun _ _ _ h => h) (Or.inl ⟨by rfl, ?_⟩) (by assumption) ?_
  rotate_left
  · intro w hSw
    go_simp
    try with_reducible rfl
  simp only [Act.put, List.getElem_toArray, List.getElem_cons_zero, List.getElem_cons_succ, List.setIfInBounds_toArray, List.set_cons_zero, List.set_cons_succ]
  refine wpAnyH_take (i := 9) (v := ?_) rfl (by kernel_rfl) (by kernel_rfl) (by kernel_rfl) (fun _ _ _ h => h) (Or.inl ⟨by rfl, ?_⟩) (by assumption) ?_
  rotate_left
  · intro w hSw
    go_simp
    try with_reducible rfl
  simp only [Act.put, List.getElem_toArray, List.getElem_cons_zero, List.getElem_cons_succ, List.setIfInBounds_toArray, List.set_cons_zero, List.set_cons_succ]
  refine wpAnyH_done (by kernel_rfl) ?_ _
  clear hq1 SX
  go_wp2
  go_ret
  exact ⟨rfl, FIN.out⟩
set_option maxHeartbeats 8000000 in
set_option maxRecDepth 100000 in
theorem step_written {w : World} {B p m q N : Nat} {va : Value} {L : List En} {H HR : Nat → Hd} (h : Gs w B p m q N va L H HR) (o : Gop) (ho : o.In w) : Calls Try.prog 8 #[.pointer (some ⟨p, 0, none⟩), .pointer (some ⟨q, 0, none⟩), .agg #[.int .i64 1, .int .i64 o.node, .string o.e.k, .int .i64 o.e.c, .int .i64 o.e.n, .string o.e.v, .bool o.e.d, .slice o.l.a o.l.n o.l.c, .bool o.snd]] w fun e w' => e = .returned (.bool true) ∧ StepOut w w' B p m q N va L H HR := by
  obtain ⟨b, hb⟩ : ∃ b, w.heap.size = b := ⟨_, rfl⟩
  obtain ⟨V, hV⟩ : ∃ V, w.alloc (.cells #[.int .i64 1, .int .i64 o.node, .string o.e.k, .int .i64 o.e.c, .int .i64 o.e.n, .string o.e.v, .bool o.e.d, .slice o.l.a o.l.n o.l.c, .bool o.snd] 34) = V := ⟨_, rfl⟩
  have kb := heap_alloc_new w (.cells #[.int .i64 1, .int .i64 o.node, .string o.e.k, .int .i64 o.e.c, .int .i64 o.e.n, .string o.e.v, .bool o.e.d, .slice o.l.a o.l.n o.l.c, .bool o.snd] 34)
  have bb := bnew w (.cells #[.int .i64 1, .int .i64 o.node, .string o.e.k, .int .i64 o.e.c, .int .i64 o.e.n, .string o.e.v, .bool o.e.d, .slice o.l.a o.l.n o.l.c, .bool o.snd] 34)
  rw [hV] at kb bb
  rw [hb] at kb
  have KB := aside kb
  have BB := aside bb
  have HG0 := aside h
  have HG := aside (h.on bb)
  have HO := aside ho
  obtain ⟨c0, c1, c2, c3, c4, c5, c6, c7, c8⟩ := nine kb
  clear h ho kb bb
  go_enter Try.func8, Try.ntmps8
  go_upto_region 1 with fail
  try rw [hV]
  try rw [hb]
  clear hV hb
  go_wp2_with fail
  have SX := aside (fun (W : World) (kk : Below V.heap.size V W) => (show W.cell? ⟨b, 0, none⟩ = some (.int .i64 1) ∧ W.cell? ⟨b, 1, none⟩ = some (.int .i64 o.node) ∧ W.cell? ⟨b, 2, none⟩ = some (.string o.e.k) ∧ W.cell? ⟨b, 3, none⟩ = some (.int .i64 o.e.c) ∧ W.cell? ⟨b, 4, none⟩ = some (.int .i64 o.e.n) ∧ W.cell? ⟨b, 5, none⟩ = some (.string o.e.v) ∧ W.cell? ⟨b, 6, none⟩ = some (.bool o.e.d) ∧ W.cell? ⟨b, 7, none⟩ = some (.slice o.l.a o.l.n o.l.c) ∧ W.cell? ⟨b, 8, none⟩ = some (.bool o.snd) from nine (blk_on KB.out kk)))
  obtain ⟨u, hu⟩ : ∃ c, wrB L o.e = c := ⟨_, rfl⟩
  have hb0 : Below V.heap.size V V.drew := (Below.refl _ V).drew
  refine wp_region_held_drew (S := fun W => (W.cell? ⟨b, 0, none⟩ = some (.int .i64 1) ∧ W.cell? ⟨b, 1, none⟩ = some (.int .i64 o.node) ∧ W.cell? ⟨b, 2, none⟩ = some (.string o.e.k) ∧ W.cell? ⟨b, 3, none⟩ = some (.int .i64 o.e.c) ∧ W.cell? ⟨b, 4, none⟩ = some (.int .i64 o.e.n) ∧ W.cell? ⟨b, 5, none⟩ = some (.string o.e.v) ∧ W.cell? ⟨b, 6, none⟩ = some (.bool o.e.d) ∧ W.cell? ⟨b, 7, none⟩ = some (.slice o.l.a o.l.n o.l.c) ∧ W.cell? ⟨b, 8, none⟩ = some (.bool o.snd))) (by kernel_rfl) (SX.out _ hb0) (fun hHeld => ?_)
  refine wpAnyH_take (i := 0) (v := ?_) rfl (by kernel_rfl) (by kernel_rfl) (by kernel_rfl) (fun _ _ _ h => h) (Or.inl ⟨by rfl, ?_⟩) (by assumption) ?_
  rotate_left
  · intro w hSw
    go_simp
    try with_reducible rfl
  simp only [Act.put, List.getElem_toArray, List.getElem_cons_zero, List.setIfInBounds_toArray, List.set_cons_zero, List.set_cons_succ]
  refine wpAnyH_take (i := 1) (v := ?_) rfl (by kernel_rfl) (by kernel_rfl) (by kernel_rfl) (fun _ _ _ h => h) (Or.inl ⟨by rfl, ?_⟩) (by assumption) ?_
  rotate_left
  · intro w hSw
    go_simp
    try with_reducible rfl
  simp only [Act.put, List.getElem_toArray, List.getElem_cons_zero, List.getElem_cons_succ, List.setIfInBounds_toArray, List.set_cons_zero, List.set_cons_succ]
  refine wpAnyH_take (i := 2) (v := ?_) rfl (by kernel_rfl) (by kernel_rfl) (by kernel_rfl) (fun _ _ _ h => h) (Or.inl ⟨by rfl, ?_⟩) (by assumption) ?_
  rotate_left
  · intro w hSw
    go_simp
    try with_reducible rfl
  simp only [Act.put, List.getElem_toArray, List.getElem_cons_zero, List.getElem_cons_succ, List.setIfInBounds_toArray, List.set_cons_zero, List.set_cons_succ]
  clear c0 c1 c2 c3 c4 c5 c6 c7 c8
  refine wpAnyH_take (i := 4) (v := ?_) rfl (by kernel_rfl) (by kernel_rfl) (by kernel_rfl) (fun _ _ _ h => h) (Or.inl ⟨by rfl, ?_⟩) (by assumption) ?_
  rotate_left
  · intro w hSw
    go_simp
    try with_reducible rfl
  simp only [Act.put, List.getElem_toArray, List.getElem_cons_zero, List.getElem_cons_succ, List.setIfInBounds_toArray, List.set_cons_zero, List.set_cons_succ]
  refine wpAnyH_take (i := 5) (v := ?_) rfl (by kernel_rfl) (by kernel_rfl) (by kernel_rfl) (fun _ _ _ h => h) (Or.inl ⟨by rfl, ?_⟩) (by assumption) ?_
  rotate_left
  · intro w hSw
    go_simp
    try with_reducible rfl
  simp only [Act.put, List.getElem_toArray, List.getElem_cons_zero, List.getElem_cons_succ, List.setIfInBounds_toArray, List.set_cons_zero, List.set_cons_succ]
  refine wpAnyH_take (i := 6) (v := ?_) rfl (by kernel_rfl) (by kernel_rfl) (by kernel_rfl) (fun _ _ _ h => h) (Or.inl ⟨by rfl, ?_⟩) (by assumption) ?_
  rotate_left
  · intro w hSw
    go_simp
    try with_reducible rfl
  simp only [Act.put, List.getElem_toArray, List.getElem_cons_zero, List.getElem_cons_succ, List.setIfInBounds_toArray, List.set_cons_zero, List.set_cons_succ]
  refine wpAnyH_ready (rs := [3]) (by kernel_rfl) (by simp) ?_
  refine AllReadyH.cons rfl (fun K hK => ?_) AllReadyH.nil
  go_simp
  refine (gwritten_any (HG.out.on hb0).g o.e (wf_in HO.out)).mono ?_
  rintro r w1 ⟨rfl, b1⟩
  rw [hu]
  have B1 := aside (bthen hb0 b1)
  refine hK.out _ _ (SX.out _ B1.out) (fun hHeld => ?_)
  clear hK K b1
  try simp only [Act.put, List.getElem_toArray, List.getElem_cons_zero, List.getElem_cons_succ, List.setIfInBounds_toArray, List.set_cons_zero, List.set_cons_succ]
  refine wpAnyH_ready (rs := [7]) (by kernel_rfl) (by simp) ?_
  refine AllReadyH.cons rfl (fun K hK => ?_) AllReadyH.nil
  go_simp
  refine (rhwritten_any (HG.out.on B1.out).r HG.out.oneW o.e).mono ?_
  rintro r w2 ⟨rfl, b2⟩
  rw [hu]
  have B2 := aside (bthen B1.out b2)
  have FIN := aside (show StepOut w w2 B p m q N va L H HR from (HG0.out.still (bthen BB.out B2.out)))
  refine hK.out _ _ (SX.out _ B2.out) (fun hHeld => ?_)
  clear hK K b2
  try simp only [Act.put, List.getElem_toArray, List.getElem_cons_zero, List.getElem_cons_succ, List.setIfInBounds_toArray, List.set_cons_zero, List.set_cons_succ]
  have hq1 : (u == u) = true := by simp
  refine wpAnyH_take (i := 8) (v := ?_) rfl (by kernel_rfl) (by kernel_rfl) (by kernel_rfl) (fun _ _ _ h => h) (Or.inl ⟨by rfl, ?_⟩) (by assumption) ?_
  rotate_left
  · intro w hSw
    go_simp
    try with_reducible rfl
  simp only [Act.put, List.getElem_toArray, List.getElem_cons_zero, List.getElem_cons_succ, List.setIfInBounds_toArray, List.set_cons_zero, List.set_cons_succ]
  refine wpAnyH_take (i := 9) (v := ?_) rfl (by kernel_rfl) (by kernel_rfl) (by kernel_rfl) (fun _ _ _ h => h) (Or.inl ⟨by rfl, ?_⟩) (by assumption) ?_
  rotate_left
  · intro w hSw
    go_simp
    try with_reducible rfl
  simp only [Act.put, List.getElem_toArray, List.getElem_cons_zero, List.getElem_cons_succ, List.setIfInBounds_toArray, List.set_cons_zero, List.set_cons_succ]
  refine wpAnyH_done (by kernel_rfl) ?_ _
  clear hq1 SX
  go_wp2
  go_ret
  exact ⟨rfl, FIN.out⟩
set_option maxHeartbeats 8000000 in
set_option maxRecDepth 100000 in
theorem step_other {w : World} {B p m q N : Nat} {va : Value} {L : List En} {H HR : Nat → Hd} (h : Gs w B p m q N va L H HR) (o : Gop) (ho : o.In w) (k : Int) (k0 : ¬ k = 0) (k1 : ¬ k = 1) (k2 : ¬ k = 2) (k3 : ¬ k = 3) : Calls Try.prog 8 #[.pointer (some ⟨p, 0, none⟩), .pointer (some ⟨q, 0, none⟩), .agg #[.int .i64 k, .int .i64 o.node, .string o.e.k, .int .i64 o.e.c, .int .i64 o.e.n, .string o.e.v, .bool o.e.d, .slice o.l.a o.l.n o.l.c, .bool o.snd]] w fun e w' => e = .returned (.bool true) ∧ StepOut w w' B p m q N va L H HR := by
  have z0 : (k == 0) = false := by simpa using k0
  have z1 : (k == 1) = false := by simpa using k1
  have z2 : (k == 2) = false := by simpa using k2
  have z3 : (k == 3) = false := by simpa using k3
  obtain ⟨b, hb⟩ : ∃ b, w.heap.size = b := ⟨_, rfl⟩
  obtain ⟨V, hV⟩ : ∃ V, w.alloc (.cells #[.int .i64 k, .int .i64 o.node, .string o.e.k, .int .i64 o.e.c, .int .i64 o.e.n, .string o.e.v, .bool o.e.d, .slice o.l.a o.l.n o.l.c, .bool o.snd] 34) = V := ⟨_, rfl⟩
  have kb := heap_alloc_new w (.cells #[.int .i64 k, .int .i64 o.node, .string o.e.k, .int .i64 o.e.c, .int .i64 o.e.n, .string o.e.v, .bool o.e.d, .slice o.l.a o.l.n o.l.c, .bool o.snd] 34)
  have bb := bnew w (.cells #[.int .i64 k, .int .i64 o.node, .string o.e.k, .int .i64 o.e.c, .int .i64 o.e.n, .string o.e.v, .bool o.e.d, .slice o.l.a o.l.n o.l.c, .bool o.snd] 34)
  rw [hV] at kb bb
  rw [hb] at kb
  have KB := aside kb
  have BB := aside bb
  have HG0 := aside h
  have HG := aside (h.on bb)
  have HO := aside ho
  obtain ⟨c0, c1, c2, c3, c4, c5, c6, c7, c8⟩ := nine kb
  clear h ho kb bb
  go_enter Try.func8, Try.ntmps8
  go_upto_region 1 with fail
  try rw [hV]
  try rw [hb]
  clear hV hb
  have FIN := aside (show StepOut w V B p m q N va L H HR from (HG0.out.still BB.out))
  go_wp2
  go_ret
  exact ⟨rfl, FIN.out⟩
end Go.Proofs.Ytfkdhambbpkmpaa

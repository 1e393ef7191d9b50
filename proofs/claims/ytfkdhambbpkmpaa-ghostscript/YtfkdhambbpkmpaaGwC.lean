/-
  A pair of ghosts that was told the same, and one call at both.
-/
import Derived.Test.YtfkdhambbpkmpaaGwB
import Derived.Test.YtfkdhambbpkmpaaGvO
import Derived.Test.YtfkdhambbpkmpaaGuB
namespace Go.Proofs.Ytfkdhambbpkmpaa
open Go.RowKit
set_option linter.unusedVariables false

structure Gs (w : World) (B p m q N : Nat) (va : Value) (L : List En) (H HR : Nat → Hd) : Prop where
  g : Gh w B p m N L H
  r : Rh w B q va L HR
  same : ∀ i, i < 8 → (H i).l = (HR i).l
  ap : ∀ i, i < 8 → ∀ j, (H i).v.ownBlock = some j → ¬ va.ownBlock = some j
/-- The blocks that a pair lies in. -/
def foot (p m q : Nat) (va : Value) (H HR : Nat → Hd) (k : Nat) : Prop := k = p ∨ k = m ∨ k = q ∨ va.ownBlock = some k ∨ ∃ i, i < 8 ∧ ((H i).v.ownBlock = some k ∨ (HR i).v.ownBlock = some k)
def turnsG (p m q : Nat) (va : Value) (k : Nat) : Prop := k = p ∨ k = m ∨ k = q ∨ va.ownBlock = some k
theorem turnsG_foot {p m q : Nat} {va : Value} {H HR : Nat → Hd} {k : Nat} (h : turnsG p m q va k) : foot p m q va H HR k := by
  rcases h with h | h | h | h
  · exact .inl h
  · exact .inr (.inl h)
  · exact .inr (.inr (.inl h))
  · exact .inr (.inr (.inr (.inl h)))
theorem Gh.mapAt {w : World} {B p m N : Nat} {L : List En} {H : Nat → Hd} (h : Gh w B p m N L H) {cs : Array Value} {t : TypeId} : ¬ w.heap[m]? = some (.cells cs t (0, 0)) := by
  obtain ⟨D, ⟨es, clock, h4, -⟩, -⟩ := h.mp
  intro h5
  rw [h4] at h5
  cases h5
theorem Gs.lt {w : World} {B p m q N : Nat} {va : Value} {L : List En} {H HR : Nat → Hd} (h : Gs w B p m q N va L H HR) {k : Nat} (hk : foot p m q va H HR k) : k < w.heap.size := by
  rcases hk with rfl | rfl | rfl | hk | ⟨i, hi, hk | hk⟩
  · exact lt_of_blk h.g.bx
  · obtain ⟨D, ⟨es, clock, h4, -⟩, -⟩ := h.g.mp
    exact lt_of_blk h4
  · exact lt_of_blk h.r.bx
  · obtain ⟨-, cs, h3⟩ := row_blkM h.r.all hk
    exact lt_of_blk h3
  · obtain ⟨-, cs, h3⟩ := row_blkM (h.g.held i hi) hk
    exact lt_of_blk h3
  · obtain ⟨-, cs, h3⟩ := row_blkM (h.r.held i hi) hk
    exact lt_of_blk h3
theorem Gs.keep {S : Nat → Prop} {w : World} {B p m q N : Nat} {va : Value} {L : List En} {H HR : Nat → Hd} {w' : World} (h : Gs w B p m q N va L H HR) (k : Keeps S w w') (hS : ∀ j, foot p m q va H HR j → ¬ S j) : Gs w' B p m q N va L H HR :=
  ⟨h.g.keep k (hS _ (.inl rfl)) (hS _ (.inr (.inl rfl))) (fun i hi j hj => hS _ (.inr (.inr (.inr (.inr ⟨i, hi, .inl hj⟩))))),
   h.r.keep k (hS _ (.inr (.inr (.inl rfl)))) (fun j hj => hS _ (.inr (.inr (.inr (.inl hj))))) (fun i hi j hj => hS _ (.inr (.inr (.inr (.inr ⟨i, hi, .inr hj⟩))))), h.same, h.ap⟩
theorem Gs.on {w : World} {B p m q N : Nat} {va : Value} {L : List En} {H HR : Nat → Hd} {w' : World} (h : Gs w B p m q N va L H HR) (k : Below w.heap.size w w') : Gs w' B p m q N va L H HR := ⟨h.g.on k, h.r.on k, h.same, h.ap⟩
/-- What turns in the code's map leaves the document's ghost. -/
theorem Gs.rm {w : World} {B p m q N : Nat} {va : Value} {L : List En} {H HR : Nat → Hd} {w' : World} (h : Gs w B p m q N va L H HR) (k : Keeps (fun x => x = m) w w') : Rh w' B q va L HR :=
  h.r.keep k (fun e => h.g.mapAt (by rw [← e]; exact h.r.bx)) (fun j hj e => by obtain ⟨-, cs, h3⟩ := row_blkM h.r.all hj; rw [e] at h3; exact h.g.mapAt h3) (fun i hi j hj e => by obtain ⟨-, cs, h3⟩ := row_blkM (h.r.held i hi) hj; rw [e] at h3; exact h.g.mapAt h3)
/-- What turns in the code's box leaves the document's ghost. -/
theorem Gs.rp {w : World} {B p m q N : Nat} {va : Value} {L : List En} {H HR : Nat → Hd} {w' : World} (h : Gs w B p m q N va L H HR) (k : Keeps (fun x => x = p) w w') : Rh w' B q va L HR :=
  h.r.keep k (fun e => by
    have h3 := h.r.bx
    rw [e, h.g.bx] at h3
    injection h3 with h3
    injection h3 with _ h3
    exact absurd h3 (by decide)) (fun j hj e => by
    obtain ⟨-, cs, h3⟩ := row_blkM h.r.all hj
    rw [e, h.g.bx] at h3
    injection h3 with h3
    injection h3 with _ h3
    exact absurd h3 (by decide)) (fun i hi j hj e => by
    obtain ⟨-, cs, h3⟩ := row_blkM (h.r.held i hi) hj
    rw [e, h.g.bx] at h3
    injection h3 with h3
    injection h3 with _ h3
    exact absurd h3 (by decide))
/-- What turns in the document's ghost leaves the code's. -/
theorem ghKeep {w w' : World} {B p m q N : Nat} {va : Value} {L L' : List En} {H HR : Nat → Hd} (g : Gh w B p m N L H) (r : Rh w B q va L' HR) (ap : ∀ i, i < 8 → ∀ j, (H i).v.ownBlock = some j → ¬ va.ownBlock = some j) (k : Keeps (fun x => x = q ∨ va.ownBlock = some x) w w') : Gh w' B p m N L H :=
  g.keep k (fun e => by
    rcases e with e | e
    · have h3 := g.bx
      rw [e, r.bx] at h3
      injection h3 with h3
      injection h3 with _ h3
      exact absurd h3 (by decide)
    · obtain ⟨-, cs, h3⟩ := row_blkM r.all e
      rw [g.bx] at h3
      injection h3 with h3
      injection h3 with _ h3
      exact absurd h3 (by decide)) (fun e => by
    rcases e with e | e
    · exact g.mapAt (by rw [e]; exact r.bx)
    · obtain ⟨-, cs, h3⟩ := row_blkM r.all e
      exact g.mapAt h3) (fun i hi j hj e => by
    rcases e with e | e
    · obtain ⟨-, cs, h3⟩ := row_blkM (g.held i hi) hj
      rw [e, r.bx] at h3
      injection h3 with h3
      injection h3 with _ h3
      exact absurd h3 (by decide)
    · exact ap i hi j hj e)
/-- What a call leaves of a pair. -/
def StepOut (w w' : World) (B p m q N : Nat) (va : Value) (L : List En) (H HR : Nat → Hd) : Prop :=
  ∃ N' va' L' H' HR', Gs w' B p m q N' va' L' H' HR' ∧ N' ≤ N + 1 ∧ L'.length ≤ L.length + 1 ∧ Keeps (turnsG p m q va) w w' ∧ (∀ k, foot p m q va' H' HR' k → foot p m q va H HR k ∨ w.heap.size ≤ k)
theorem Gs.still {w : World} {B p m q N : Nat} {va : Value} {L : List En} {H HR : Nat → Hd} {w' : World} (h : Gs w B p m q N va L H HR) (b : Below w.heap.size w w') : StepOut w w' B p m q N va L H HR :=
  ⟨N, va, L, H, HR, h.on b, by omega, by omega, Keeps.of_below b _, fun k hk => .inl hk⟩
theorem nine {w : World} {i : Nat} {a b c d e f g h j : Value} {T : TypeId} (H : w.heap[i]? = some (.cells #[a, b, c, d, e, f, g, h, j] T (0, 0))) : w.cell? ⟨i, 0, none⟩ = some a ∧ w.cell? ⟨i, 1, none⟩ = some b ∧ w.cell? ⟨i, 2, none⟩ = some c ∧ w.cell? ⟨i, 3, none⟩ = some d ∧ w.cell? ⟨i, 4, none⟩ = some e ∧ w.cell? ⟨i, 5, none⟩ = some f ∧ w.cell? ⟨i, 6, none⟩ = some g ∧ w.cell? ⟨i, 7, none⟩ = some h ∧ w.cell? ⟨i, 8, none⟩ = some j :=
  ⟨by rw [cell_of_row _ _ 0 _ _ _ H]; rfl, by rw [cell_of_row _ _ 1 _ _ _ H]; rfl, by rw [cell_of_row _ _ 2 _ _ _ H]; rfl, by rw [cell_of_row _ _ 3 _ _ _ H]; rfl, by rw [cell_of_row _ _ 4 _ _ _ H]; rfl, by rw [cell_of_row _ _ 5 _ _ _ H]; rfl, by rw [cell_of_row _ _ 6 _ _ _ H]; rfl, by rw [cell_of_row _ _ 7 _ _ _ H]; rfl, by rw [cell_of_row _ _ 8 _ _ _ H]; rfl⟩
theorem wroL_len (L : List En) (e : En) : (wroL L e).length ≤ L.length + 1 := by
  unfold wroL
  split
  · split
    · omega
    · simp
  · omega
theorem wf_in {w : World} {o : Gop} (h : o.In w) : wfW (wrOf o.e) := by
  obtain ⟨-, h1, h2, h3⟩ := h
  refine ⟨?_, h2, h3⟩
  show o.e.k.size ≤ maxLen
  unfold maxLen
  omega
/-- A box that no part of a pair is. -/
theorem Gs.nob {w : World} {B p m q N : Nat} {va : Value} {L : List En} {H HR : Nat → Hd} (h : Gs w B p m q N va L H HR) {b : Nat} {cs : Array Value} (hb : w.heap[b]? = some (.cells cs 34 (0, 0))) : ¬ foot p m q va H HR b := by
  intro hk
  rcases hk with rfl | rfl | rfl | hk | ⟨i, hi, hk | hk⟩
  · have h3 := h.g.bx; rw [hb] at h3; injection h3 with h3; injection h3 with _ h3; exact absurd h3 (by decide)
  · exact h.g.mapAt hb
  · have h3 := h.r.bx; rw [hb] at h3; injection h3 with h3; injection h3 with _ h3; exact absurd h3 (by decide)
  · obtain ⟨-, cs, h3⟩ := row_blkM h.r.all hk; rw [hb] at h3; injection h3 with h3; injection h3 with _ h3; exact absurd h3 (by decide)
  · obtain ⟨-, cs, h3⟩ := row_blkM (h.g.held i hi) hk; rw [hb] at h3; injection h3 with h3; injection h3 with _ h3; exact absurd h3 (by decide)
  · obtain ⟨-, cs, h3⟩ := row_blkM (h.r.held i hi) hk; rw [hb] at h3; injection h3 with h3; injection h3 with _ h3; exact absurd h3 (by decide)
theorem Gs.oneW {w : World} {B p m q N : Nat} {va : Value} {L : List En} {H HR : Nat → Hd} (h : Gs w B p m q N va L H HR) : OneW L := h.g.oneW
/-- Wrote of the code's, then of the document's. -/
theorem Gs.wrote {w : World} {B p m q N : Nat} {va : Value} {L : List En} {H HR : Nat → Hd} {w0 w1 w2 : World} {e : En} {va' : Value} (h : Gs w B p m q N va L H HR) (bb : Below w0.heap.size w0 w) (g1 : Gh w1 B p m (N + 1) (wroL L e) H) (k1 : Keeps (fun x => x = m) w w1) (r2 : Rh w2 B q va' (wroL L e) HR) (k2 : Keeps (fun k => k = q ∨ va.ownBlock = some k) w1 w2) (alt : va'.ownBlock = va.ownBlock ∨ ∃ g, va'.ownBlock = some g ∧ w1.heap.size ≤ g) : StepOut w0 w2 B p m q N va L H HR := by
  have r1 : Rh w1 B q va L HR := h.rm k1
  have g2 := ghKeep g1 r1 h.ap k2
  refine ⟨N + 1, va', _, H, HR, ⟨g2, r2, h.same, fun i hi j hj h9 => ?_⟩, Nat.le_refl _, wroL_len L e, ?_, fun k hk => ?_⟩
  · rcases alt with h1 | ⟨g, h1, h2⟩
    · exact h.ap i hi j hj (by rw [← h1]; exact h9)
    · rw [h1] at h9
      injection h9 with h9
      obtain ⟨-, cs, h4⟩ := row_blkM (g1.held i hi) hj
      have := lt_of_blk h4
      omega
  · exact (((Keeps.of_below bb (turnsG p m q va)).trans (k1.mono (fun k _ e => .inr (.inl e)))).trans (k2.mono (fun k _ e => by
      rcases e with e | e
      · exact .inr (.inr (.inl e))
      · exact .inr (.inr (.inr e)))))
  · rcases hk with hk | hk | hk | hk | hk
    · exact .inl (.inl hk)
    · exact .inl (.inr (.inl hk))
    · exact .inl (.inr (.inr (.inl hk)))
    · rcases alt with h1 | ⟨g, h1, h2⟩
      · exact .inl (.inr (.inr (.inr (.inl (by rw [← h1]; exact hk)))))
      · rw [h1] at hk
        injection hk with hk
        have := k1.size
        have := bb.size
        exact .inr (by omega)
    · exact .inl (.inr (.inr (.inr (.inr hk))))
set_option maxHeartbeats 8000000 in
set_option maxRecDepth 100000 in
theorem step_wrote {w : World} {B p m q N : Nat} {va : Value} {L : List En} {H HR : Nat → Hd} (h : Gs w B p m q N va L H HR) (o : Gop) (ho : o.In w) (hN : N < maxLen) (hL : L.length ≤ 1073741824) : Calls Try.prog 8 #[.pointer (some ⟨p, 0, none⟩), .pointer (some ⟨q, 0, none⟩), .agg #[.int .i64 0, .int .i64 o.node, .string o.e.k, .int .i64 o.e.c, .int .i64 o.e.n, .string o.e.v, .bool o.e.d, .slice o.l.a o.l.n o.l.c, .bool o.snd]] w fun e w' => e = .returned (.bool true) ∧ StepOut w w' B p m q N va L H HR := by
  obtain ⟨b, hb⟩ : ∃ b, w.heap.size = b := ⟨_, rfl⟩
  obtain ⟨V, hV⟩ : ∃ V, w.alloc (.cells #[.int .i64 0, .int .i64 o.node, .string o.e.k, .int .i64 o.e.c, .int .i64 o.e.n, .string o.e.v, .bool o.e.d, .slice o.l.a o.l.n o.l.c, .bool o.snd] 34) = V := ⟨_, rfl⟩
  have kb := heap_alloc_new w (.cells #[.int .i64 0, .int .i64 o.node, .string o.e.k, .int .i64 o.e.c, .int .i64 o.e.n, .string o.e.v, .bool o.e.d, .slice o.l.a o.l.n o.l.c, .bool o.snd] 34)
  have bb := bnew w (.cells #[.int .i64 0, .int .i64 o.node, .string o.e.k, .int .i64 o.e.c, .int .i64 o.e.n, .string o.e.v, .bool o.e.d, .slice o.l.a o.l.n o.l.c, .bool o.snd] 34)
  rw [hV] at kb bb
  rw [hb] at kb
  have KB := aside kb
  have BB := aside bb
  have HG0 := aside h
  have HG := aside (h.on bb)
  have HO := aside ho
  obtain ⟨c0, c1, c2, c3, c4, c5, c6, c7, c8⟩ := nine kb
  have HN := aside hN
  have HL := aside hL
  clear hN hL
  clear h ho kb bb
  go_enter Try.func8, Try.ntmps8
  go_upto_region 1 with fail
  try rw [hV]
  try rw [hb]
  clear hV hb
  go_wp2_with fail
  have SX := aside (fun (W : World) (kk : Keeps (turnsG p m q va) V W) => (show W.cell? ⟨b, 0, none⟩ = some (.int .i64 0) ∧ W.cell? ⟨b, 1, none⟩ = some (.int .i64 o.node) ∧ W.cell? ⟨b, 2, none⟩ = some (.string o.e.k) ∧ W.cell? ⟨b, 3, none⟩ = some (.int .i64 o.e.c) ∧ W.cell? ⟨b, 4, none⟩ = some (.int .i64 o.e.n) ∧ W.cell? ⟨b, 5, none⟩ = some (.string o.e.v) ∧ W.cell? ⟨b, 6, none⟩ = some (.bool o.e.d) ∧ W.cell? ⟨b, 7, none⟩ = some (.slice o.l.a o.l.n o.l.c) ∧ W.cell? ⟨b, 8, none⟩ = some (.bool o.snd) from nine (blk_keep KB.out kk (fun h9 => HG.out.nob KB.out (turnsG_foot h9)))))
  obtain ⟨cq, hcq⟩ : ∃ c, wroQ L o.e = c := ⟨_, rfl⟩
  have hb0 : Below V.heap.size V V.drew := (Below.refl _ V).drew
  refine wp_region_held_drew (S := fun W => (W.cell? ⟨b, 0, none⟩ = some (.int .i64 0) ∧ W.cell? ⟨b, 1, none⟩ = some (.int .i64 o.node) ∧ W.cell? ⟨b, 2, none⟩ = some (.string o.e.k) ∧ W.cell? ⟨b, 3, none⟩ = some (.int .i64 o.e.c) ∧ W.cell? ⟨b, 4, none⟩ = some (.int .i64 o.e.n) ∧ W.cell? ⟨b, 5, none⟩ = some (.string o.e.v) ∧ W.cell? ⟨b, 6, none⟩ = some (.bool o.e.d) ∧ W.cell? ⟨b, 7, none⟩ = some (.slice o.l.a o.l.n o.l.c) ∧ W.cell? ⟨b, 8, none⟩ = some (.bool o.snd))) (by kernel_rfl) (SX.out _ (Keeps.of_below hb0 _)) (fun hHeld => ?_)
  refine wpAnyH_take (i := 0) (v := ?_) rfl (by kernel_rfl) (by kernel_rfl) (by kernel_rfl) (fun _ _ _ h => h) (Or.inl ⟨by rfl, ?_⟩) (by assumption) ?_
  rotate_left
  · intro w hSw
    go_simp
    try with_reducible rfl
  simp only [Act.put, List.getElem_toArray, List.getElem_cons_zero, List.setIfInBounds_toArray, List.set_cons_zero, List.set_cons_succ]
  refine wpAnyH_take (i := 1) (v := ?_) rfl (by kernel_rfl) (by kernel_rfl) (by kernel_rfl) (fun _ _ _ h => h) (Or.inl ⟨by rfl, ?_⟩) (by assumption) ?_
  rotate_left
  · intro w hSw
    go_simp
    try with_reducible rfl
  simp only [Act.put, List.getElem_toArray, List.getElem_cons_zero, List.getElem_cons_succ, List.setIfInBounds_toArray, List.set_cons_zero, List.set_cons_succ]
  refine wpAnyH_take (i := 2) (v := ?_) rfl (by kernel_rfl) (by kernel_rfl) (by kernel_rfl) (fun _ _ _ h => h) (Or.inl ⟨by rfl, ?_⟩) (by assumption) ?_
  rotate_left
  · intro w hSw
    go_simp
    try with_reducible rfl
  simp only [Act.put, List.getElem_toArray, List.getElem_cons_zero, List.getElem_cons_succ, List.setIfInBounds_toArray, List.set_cons_zero, List.set_cons_succ]
  clear c0 c1 c2 c3 c4 c5 c6 c7 c8
  refine wpAnyH_take (i := 4) (v := ?_) rfl (by kernel_rfl) (by kernel_rfl) (by kernel_rfl) (fun _ _ _ h => h) (Or.inl ⟨by rfl, ?_⟩) (by assumption) ?_
  rotate_left
  · intro w hSw
    go_simp
    try with_reducible rfl
  simp only [Act.put, List.getElem_toArray, List.getElem_cons_zero, List.getElem_cons_succ, List.setIfInBounds_toArray, List.set_cons_zero, List.set_cons_succ]
  refine wpAnyH_take (i := 5) (v := ?_) rfl (by kernel_rfl) (by kernel_rfl) (by kernel_rfl) (fun _ _ _ h => h) (Or.inl ⟨by rfl, ?_⟩) (by assumption) ?_
  rotate_left
  · intro w hSw
    go_simp
    try with_reducible rfl
  simp only [Act.put, List.getElem_toArray, List.getElem_cons_zero, List.getElem_cons_succ, List.setIfInBounds_toArray, List.set_cons_zero, List.set_cons_succ]
  refine wpAnyH_take (i := 6) (v := ?_) rfl (by kernel_rfl) (by kernel_rfl) (by kernel_rfl) (fun _ _ _ h => h) (Or.inl ⟨by rfl, ?_⟩) (by assumption) ?_
  rotate_left
  · intro w hSw
    go_simp
    try with_reducible rfl
  simp only [Act.put, List.getElem_toArray, List.getElem_cons_zero, List.getElem_cons_succ, List.setIfInBounds_toArray, List.set_cons_zero, List.set_cons_succ]
  refine wpAnyH_ready (rs := [3]) (by kernel_rfl) (by simp) ?_
  refine AllReadyH.cons rfl (fun K hK => ?_) AllReadyH.nil
  go_simp
  refine (gwrote_any (HG.out.on hb0).g o.e HO.out.2.1 HN.out).mono ?_
  rintro r w1 ⟨rfl, G1, k1⟩
  rw [hcq]
  have kk1 := (Keeps.of_below hb0 (turnsG p m q va)).trans (k1.mono (fun k _ e => .inr (.inl e)))
  have G1 := aside G1
  have K1 := aside k1
  have KK1 := aside kk1
  refine hK.out _ _ (SX.out _ kk1) (fun hHeld => ?_)
  clear hK K k1 kk1
  try simp only [Act.put, List.getElem_toArray, List.getElem_cons_zero, List.getElem_cons_succ, List.setIfInBounds_toArray, List.set_cons_zero, List.set_cons_succ]
  refine wpAnyH_ready (rs := [7]) (by kernel_rfl) (by simp) ?_
  refine AllReadyH.cons rfl (fun K hK => ?_) AllReadyH.nil
  go_simp
  refine (rhwrote_any ((HG.out.on hb0).rm K1.out) (HG.out.oneW) o.e HL.out).mono ?_
  rintro r w2 ⟨rfl, va', R2, k2, alt⟩
  rw [hcq]
  have FIN := aside ((HG.out.on hb0).wrote (bthen BB.out hb0) G1.out K1.out R2 k2 alt)
  refine hK.out _ _ (SX.out _ (KK1.out.trans (k2.mono (fun k _ e => by
    rcases e with e | e
    · exact .inr (.inr (.inl e))
    · exact .inr (.inr (.inr e)))))) (fun hHeld => ?_)
  clear hK K k2 R2 alt
  try simp only [Act.put, List.getElem_toArray, List.getElem_cons_zero, List.getElem_cons_succ, List.setIfInBounds_toArray, List.set_cons_zero, List.set_cons_succ]
  have hq1 : (cq == cq) = true := by simp
  refine wpAnyH_take (i := 8) (v := ?_) rfl (by kernel_rfl) (by kernel_rfl) (by kernel_rfl) (fun _ _ _ h => h) (Or.inl ⟨by rfl, ?_⟩) (by assumption) ?_
  rotate_left
  · intro w hSw
    go_simp
    try with_reducible rfl
  simp only [Act.put, List.getElem_toArray, List.getElem_cons_zero, List.getElem_cons_succ, List.setIfInBounds_toArray, List.set_cons_zero, List.set_cons_succ]
  refine wpAnyH_take (i := 9) (v := ?_) rfl (by kernel_rfl) (by kernel_rfl) (by kernel_rfl) (fun _ _ _ h => h) (Or.inl ⟨by rfl, ?_⟩) (by assumption) ?_
  rotate_left
  · intro w hSw
    go_simp
    try with_reducible rfl
  simp only [Act.put, List.getElem_toArray, List.getElem_cons_zero, List.getElem_cons_succ, List.setIfInBounds_toArray, List.set_cons_zero, List.set_cons_succ]
  refine wpAnyH_done (by kernel_rfl) ?_ _
  clear hq1 SX
  go_wp2
  go_ret
  exact ⟨rfl, FIN.out⟩
set_option maxHeartbeats 8000000 in
set_option maxRecDepth 100000 in
theorem step_written {w : World} {B p m q N : Nat} {va : Value} {L : List En} {H HR : Nat → Hd} (h : Gs w B p m q N va L H HR) (o : Gop) (ho : o.In w) : Calls Try.prog 8 #[.pointer (some ⟨p, 0, none⟩), .pointer (some ⟨q, 0, none⟩), .agg #[.int .i64 1, .int .i64 o.node, .string o.e.k, .int .i64 o.e.c, .int .i64 o.e.n, .string o.e.v, .bool o.e.d, .slice o.l.a o.l.n o.l.c, .bool o.snd]] w fun e w' => e = .returned (.bool true) ∧ StepOut w w' B p m q N va L H HR := by
  obtain ⟨b, hb⟩ : ∃ b, w.heap.size = b := ⟨_, rfl⟩
  obtain ⟨V, hV⟩ : ∃ V, w.alloc (.cells #[.int .i64 1, .int .i64 o.node, .string o.e.k, .int .i64 o.e.c, .int .i64 o.e.n, .string o.e.v, .bool o.e.d, .slice o.l.a o.l.n o.l.c, .bool o.snd] 34) = V := ⟨_, rfl⟩
  have kb := heap_alloc_new w (.cells #[.int .i64 1, .int .i64 o.node, .string o.e.k, .int .i64 o.e.c, .int .i64 o.e.n, .string o.e.v, .bool o.e.d, .slice o.l.a o.l.n o.l.c, .bool o.snd] 34)
  have bb := bnew w (.cells #[.int .i64 1, .int .i64 o.node, .string o.e.k, .int .i64 o.e.c, .int .i64 o.e.n, .string o.e.v, .bool o.e.d, .slice o.l.a o.l.n o.l.c, .bool o.snd] 34)
  rw [hV] at kb bb
  rw [hb] at kb
  have KB := aside kb
  have BB := aside bb
  have HG0 := aside h
  have HG := aside (h.on bb)
  have HO := aside ho
  obtain ⟨c0, c1, c2, c3, c4, c5, c6, c7, c8⟩ := nine kb
  clear h ho kb bb
  go_enter Try.func8, Try.ntmps8
  go_upto_region 1 with fail
  try rw [hV]
  try rw [hb]
  clear hV hb
  go_wp2_with fail
  have SX := aside (fun (W : World) (kk : Below V.heap.size V W) => (show W.cell? ⟨b, 0, none⟩ = some (.int .i64 1) ∧ W.cell? ⟨b, 1, none⟩ = some (.int .i64 o.node) ∧ W.cell? ⟨b, 2, none⟩ = some (.string o.e.k) ∧ W.cell? ⟨b, 3, none⟩ = some (.int .i64 o.e.c) ∧ W.cell? ⟨b, 4, none⟩ = some (.int .i64 o.e.n) ∧ W.cell? ⟨b, 5, none⟩ = some (.string o.e.v) ∧ W.cell? ⟨b, 6, none⟩ = some (.bool o.e.d) ∧ W.cell? ⟨b, 7, none⟩ = some (.slice o.l.a o.l.n o.l.c) ∧ W.cell? ⟨b, 8, none⟩ = some (.bool o.snd) from nine (blk_on KB.out kk)))
  obtain ⟨u, hu⟩ : ∃ c, wrB L o.e = c := ⟨_, rfl⟩
  have hb0 : Below V.heap.size V V.drew := (Below.refl _ V).drew
  refine wp_region_held_drew (S := fun W => (W.cell? ⟨b, 0, none⟩ = some (.int .i64 1) ∧ W.cell? ⟨b, 1, none⟩ = some (.int .i64 o.node) ∧ W.cell? ⟨b, 2, none⟩ = some (.string o.e.k) ∧ W.cell? ⟨b, 3, none⟩ = some (.int .i64 o.e.c) ∧ W.cell? ⟨b, 4, none⟩ = some (.int .i64 o.e.n) ∧ W.cell? ⟨b, 5, none⟩ = some (.string o.e.v) ∧ W.cell? ⟨b, 6, none⟩ = some (.bool o.e.d) ∧ W.cell? ⟨b, 7, none⟩ = some (.slice o.l.a o.l.n o.l.c) ∧ W.cell? ⟨b, 8, none⟩ = some (.bool o.snd))) (by kernel_rfl) (SX.out _ hb0) (fun hHeld => ?_)
  refine wpAnyH_take (i := 0) (v := ?_) rfl (by kernel_rfl) (by kernel_rfl) (by kernel_rfl) (fun _ _ _ h => h) (Or.inl ⟨by rfl, ?_⟩) (by assumption) ?_
  rotate_left
  · intro w hSw
    go_simp
    try with_reducible rfl
  simp only [Act.put, List.getElem_toArray, List.getElem_cons_zero, List.setIfInBounds_toArray, List.set_cons_zero, List.set_cons_succ]
  refine wpAnyH_take (i := 1) (v := ?_) rfl (by kernel_rfl) (by kernel_rfl) (by kernel_rfl) (fun _ _ _ h => h) (Or.inl ⟨by rfl, ?_⟩) (by assumption) ?_
  rotate_left
  · intro w hSw
    go_simp
    try with_reducible rfl
  simp only [Act.put, List.getElem_toArray, List.getElem_cons_zero, List.getElem_cons_succ, List.setIfInBounds_toArray, List.set_cons_zero, List.set_cons_succ]
  refine wpAnyH_take (i := 2) (v := ?_) rfl (by kernel_rfl) (by kernel_rfl) (by kernel_rfl) (fun _ _ _ h => h) (Or.inl ⟨by rfl, ?_⟩) (by assumption) ?_
  rotate_left
  · intro w hSw
    go_simp
    try with_reducible rfl
  simp only [Act.put, List.getElem_toArray, List.getElem_cons_zero, List.getElem_cons_succ, List.setIfInBounds_toArray, List.set_cons_zero, List.set_cons_succ]
  clear c0 c1 c2 c3 c4 c5 c6 c7 c8
  refine wpAnyH_take (i := 4) (v := ?_) rfl (by kernel_rfl) (by kernel_rfl) (by kernel_rfl) (fun _ _ _ h => h) (Or.inl ⟨by rfl, ?_⟩) (by assumption) ?_
  rotate_left
  · intro w hSw
    go_simp
    try with_reducible rfl
  simp only [Act.put, List.getElem_toArray, List.getElem_cons_zero, List.getElem_cons_succ, List.setIfInBounds_toArray, List.set_cons_zero, List.set_cons_succ]
  refine wpAnyH_take (i := 5) (v := ?_) rfl (by kernel_rfl) (by kernel_rfl) (by kernel_rfl) (fun _ _ _ h => h) (Or.inl ⟨by rfl, ?_⟩) (by assumption) ?_
  rotate_left
  · intro w hSw
    go_simp
    try with_reducible rfl
  simp only [Act.put, List.getElem_toArray, List.getElem_cons_zero, List.getElem_cons_succ, List.setIfInBounds_toArray, List.set_cons_zero, List.set_cons_succ]
  refine wpAnyH_take (i := 6) (v := ?_) rfl (by kernel_rfl) (by kernel_rfl) (by kernel_rfl) (fun _ _ _ h => h) (Or.inl ⟨by rfl, ?_⟩) (by assumption) ?_
  rotate_left
  · intro w hSw
    go_simp
    try with_reducible rfl
  simp only [Act.put, List.getElem_toArray, List.getElem_cons_zero, List.getElem_cons_succ, List.setIfInBounds_toArray, List.set_cons_zero, List.set_cons_succ]
  refine wpAnyH_ready (rs := [3]) (by kernel_rfl) (by simp) ?_
  refine AllReadyH.cons rfl (fun K hK => ?_) AllReadyH.nil
  go_simp
  refine (gwritten_any (HG.out.on hb0).g o.e (wf_in HO.out)).mono ?_
  rintro r w1 ⟨rfl, b1⟩
  rw [hu]
  have B1 := aside (bthen hb0 b1)
  refine hK.out _ _ (SX.out _ B1.out) (fun hHeld => ?_)
  clear hK K b1
  try simp only [Act.put, List.getElem_toArray, List.getElem_cons_zero, List.getElem_cons_succ, List.setIfInBounds_toArray, List.set_cons_zero, List.set_cons_succ]
  refine wpAnyH_ready (rs := [7]) (by kernel_rfl) (by simp) ?_
  refine AllReadyH.cons rfl (fun K hK => ?_) AllReadyH.nil
  go_simp
  refine (rhwritten_any (HG.out.on B1.out).r HG.out.oneW o.e).mono ?_
  rintro r w2 ⟨rfl, b2⟩
  rw [hu]
  have B2 := aside (bthen B1.out b2)
  have FIN := aside (show StepOut w w2 B p m q N va L H HR from (HG0.out.still (bthen BB.out B2.out)))
  refine hK.out _ _ (SX.out _ B2.out) (fun hHeld => ?_)
  clear hK K b2
  try simp only [Act.put, List.getElem_toArray, List.getElem_cons_zero, List.getElem_cons_succ, List.setIfInBounds_toArray, List.set_cons_zero, List.set_cons_succ]
  have hq1 : (u == u) = true := by simp
  refine wpAnyH_take (i := 8) (v := ?_) rfl (by kernel_rfl) (by kernel_rfl) (by kernel_rfl) (fun _ _ _ h => h) (Or.inl ⟨by rfl, ?_⟩) (by assumption) ?_
  rotate_left
  · intro w hSw
    go_simp
    try with_reducible rfl
  simp only [Act.put, List.getElem_toArray, List.getElem_cons_zero, List.getElem_cons_succ, List.setIfInBounds_toArray, List.set_cons_zero, List.set_cons_succ]
  refine wpAnyH_take (i := 9) (v := ?_) rfl (by kernel_rfl) (by kernel_rfl) (by kernel_rfl) (fun _ _ _ h => h) (Or.inl ⟨by rfl, ?_⟩) (by assumption) ?_
  rotate_left
  · intro w hSw
    go_simp
    try with_reducible rfl
  simp only [Act.put, List.getElem_toArray, List.getElem_cons_zero, List.getElem_cons_succ, List.setIfInBounds_toArray, List.set_cons_zero, List.set_cons_succ]
  refine wpAnyH_done (by kernel_rfl) ?_ _
  clear hq1 SX
  go_wp2
  go_ret
  exact ⟨rfl, FIN.out⟩
set_option maxHeartbeats 8000000 in
set_option maxRecDepth 100000 in
theorem step_other {w : World} {B p m q N : Nat} {va : Value} {L : List En} {H HR : Nat → Hd} (h : Gs w B p m q N va L H HR) (o : Gop) (ho : o.In w) (k : Int) (k0 : ¬ k = 0) (k1 : ¬ k = 1) (k2 : ¬ k = 2) (k3 : ¬ k = 3) : Calls Try.prog 8 #[.pointer (some ⟨p, 0, none⟩), .pointer (some ⟨q, 0, none⟩), .agg #[.int .i64 k, .int .i64 o.node, .string o.e.k, .int .i64 o.e.c, .int .i64 o.e.n, .string o.e.v, .bool o.e.d, .slice o.l.a o.l.n o.l.c, .bool o.snd]] w fun e w' => e = .returned (.bool true) ∧ StepOut w w' B p m q N va L H HR := by
  have z0 : (k == 0) = false := by simpa using k0
  have z1 : (k == 1) = false := by simpa using k1
  have z2 : (k == 2) = false := by simpa using k2
  have z3 : (k == 3) = false := by simpa using k3
  obtain ⟨b, hb⟩ : ∃ b, w.heap.size = b := ⟨_, rfl⟩
  obtain ⟨V, hV⟩ : ∃ V, w.alloc (.cells #[.int .i64 k, .int .i64 o.node, .string o.e.k, .int .i64 o.e.c, .int .i64 o.e.n, .string o.e.v, .bool o.e.d, .slice o.l.a o.l.n o.l.c, .bool o.snd] 34) = V := ⟨_, rfl⟩
  have kb := heap_alloc_new w (.cells #[.int .i64 k, .int .i64 o.node, .string o.e.k, .int .i64 o.e.c, .int .i64 o.e.n, .string o.e.v, .bool o.e.d, .slice o.l.a o.l.n o.l.c, .bool o.snd] 34)
  have bb := bnew w (.cells #[.int .i64 k, .int .i64 o.node, .string o.e.k, .int .i64 o.e.c, .int .i64 o.e.n, .string o.e.v, .bool o.e.d, .slice o.l.a o.l.n o.l.c, .bool o.snd] 34)
  rw [hV] at kb bb
  rw [hb] at kb
  have KB := aside kb
  have BB := aside bb
  have HG0 := aside h
  have HG := aside (h.on bb)
  have HO := aside ho
  obtain ⟨c0, c1, c2, c3, c4, c5, c6, c7, c8⟩ := nine kb
  clear h ho kb bb
  go_enter Try.func8, Try.ntmps8
  go_upto_region 1 with fail
  try rw [hV]
  try rw [hb]
  clear hV hb
  have FIN := aside (show StepOut w V B p m q N va L H HR from (HG0.out.still BB.out))
  go_wp2
  go_ret
  exact ⟨rfl, FIN.out⟩
theorem Gs.heldSame {w : World} {B p m q N : Nat} {va : Value} {L : List En} {H HR : Nat → Hd} (h : Gs w B p m q N va L H HR) (node : Int) : (heldG H node).l = (heldG HR node).l := by
  unfold heldG
  split
  · exact h.same _ (by omega)
  · rfl
/-- Two rows of the same entries are the same. -/
theorem same_rows {w : World} {B1 B2 n1 n2 d1 d2 : Nat} {a1 a2 : Option Addr} {l : List En} (h1 : w.ownsRow B1 31 5 (.slice a1 n1 d1) n1 (entCells l)) (h2 : w.ownsRow B2 31 5 (.slice a2 n2 d2) n2 (entCells l)) (hk : KeysOk l) :
    Calls Try.prog 9 #[.slice a1 n1 d1, .slice a2 n2 d2] w fun e w' => e = .returned (.bool true) ∧ Below w.heap.size w w' := by
  obtain ⟨T1, e1, f1, -⟩ := entsG_of h1 hk
  obtain ⟨T2, e2, f2, -⟩ := entsG_of h2 hk
  exact same19_yes a1 n1 d1 T1 a2 n2 d2 T2 w e1 e2 (by rw [f1, f2])
set_option maxHeartbeats 8000000 in
set_option maxRecDepth 100000 in
theorem step_held {w : World} {B p m q N : Nat} {va : Value} {L : List En} {H HR : Nat → Hd} (h : Gs w B p m q N va L H HR) (o : Gop) (ho : o.In w) : Calls Try.prog 8 #[.pointer (some ⟨p, 0, none⟩), .pointer (some ⟨q, 0, none⟩), .agg #[.int .i64 3, .int .i64 o.node, .string o.e.k, .int .i64 o.e.c, .int .i64 o.e.n, .string o.e.v, .bool o.e.d, .slice o.l.a o.l.n o.l.c, .bool o.snd]] w fun e w' => e = .returned (.bool true) ∧ StepOut w w' B p m q N va L H HR := by
  have HEQ := aside (h.heldSame o.node)
  have HK := aside (mapKeys (h.g.one o.node).2.1)
  have HZ := aside (h.g.one o.node).2.2
  obtain ⟨b, hb⟩ : ∃ b, w.heap.size = b := ⟨_, rfl⟩
  obtain ⟨V, hV⟩ : ∃ V, w.alloc (.cells #[.int .i64 3, .int .i64 o.node, .string o.e.k, .int .i64 o.e.c, .int .i64 o.e.n, .string o.e.v, .bool o.e.d, .slice o.l.a o.l.n o.l.c, .bool o.snd] 34) = V := ⟨_, rfl⟩
  have kb := heap_alloc_new w (.cells #[.int .i64 3, .int .i64 o.node, .string o.e.k, .int .i64 o.e.c, .int .i64 o.e.n, .string o.e.v, .bool o.e.d, .slice o.l.a o.l.n o.l.c, .bool o.snd] 34)
  have bb := bnew w (.cells #[.int .i64 3, .int .i64 o.node, .string o.e.k, .int .i64 o.e.c, .int .i64 o.e.n, .string o.e.v, .bool o.e.d, .slice o.l.a o.l.n o.l.c, .bool o.snd] 34)
  rw [hV] at kb bb
  rw [hb] at kb
  have KB := aside kb
  have BB := aside bb
  have HG0 := aside h
  have HG := aside (h.on bb)
  have HO := aside ho
  obtain ⟨c0, c1, c2, c3, c4, c5, c6, c7, c8⟩ := nine kb
  clear h ho kb bb
  go_enter Try.func8, Try.ntmps8
  go_upto_region 1 with fail
  try rw [hV]
  try rw [hb]
  clear hV hb
  have CH := aside (fun (W : World) (b9 : Below V.heap.size V W) => gheld_any (HG.out.on b9).g o.node)
  have CR := aside (fun (W : World) (b9 : Below V.heap.size V W) => rhheld_any (HG.out.on b9).r o.node)
  generalize heldG H o.node = hd at *
  generalize heldG HR o.node = hr at *
  clear c2 c3 c4 c5 c6 c7 c8
  go_wp2_with fail
  refine (CH.out _ (Below.refl _ _)).mono ?_
  rintro r w1 ⟨a1, d1, rfl, o1, b1⟩
  have B1 := aside b1
  have O1 := aside o1
  replace c1 := cell_in c1 b1
  clear o1 b1
  go_wp2_with fail
  refine (CH.out _ B1.out).mono ?_
  rintro r w2 ⟨a2, d2, rfl, o2, b2⟩
  have B12 := aside b2
  have B2 := aside (bthen B1.out b2)
  have O2 := aside o2
  replace c1 := cell_in c1 b2
  clear o2 b2
  go_wp2_with fail
  refine (CR.out _ B2.out).mono ?_
  rintro r w3 ⟨a3, d3, rfl, o3, b3⟩
  have B23 := aside b3
  have O3 := aside (show w3.ownsRow w2.heap.size 31 5 (.slice a3 hr.n d3) hr.n (entCells hd.l) from by rw [HEQ.out]; exact o3)
  clear o3 b3 c1 CH CR
  go_wp2_with fail
  refine (same_rows (own_on O1.out (bthen B12.out B23.out)) O3.out HK.out).mono ?_
  rintro r w4 ⟨rfl, b4⟩
  have B34 := aside b4
  clear b4
  go_wp2_with fail
  refine (same_rows (own_on O2.out (bthen B23.out B34.out)) (own_on O3.out B34.out) HK.out).mono ?_
  rintro r w5 ⟨rfl, b5⟩
  have B35 := aside (bthen B34.out b5)
  clear b5
  go_wp2_with fail
  refine (spoil19_any V.heap.size hd.n _ hd.l w5 (own_on O1.out (bthen B12.out (bthen B23.out B35.out))) (bthen B2.out (bthen B23.out B35.out)).size (by have := HZ.out; omega)).mono ?_
  rintro r w6 ⟨rfl, k6⟩
  have B6 := aside (spoilt (w0 := V) (bthen B2.out (bthen B23.out B35.out)) (own_on O1.out (bthen B12.out (bthen B23.out B35.out))) k6)
  have NB := aside (show ∀ j, (Value.slice a1 hd.n d1).ownBlock = some j → j < w1.heap.size from fun j hj => by
    obtain ⟨-, cs, h3⟩ := row_blkM O1.out hj
    exact lt_of_blk h3)
  have O26 := aside (ownsRow_keep (own_on O2.out (bthen B23.out B35.out)) k6 (fun j hj h9 => by
    have h7 := NB.out j h9
    have h8 := (row_blkM O2.out hj).1
    omega))
  have O36 := aside (ownsRow_keep (own_on O3.out B35.out) k6 (fun j hj h9 => by
    have h7 := NB.out j h9
    have h8 := (row_blkM O3.out hj).1
    have h6 := B12.out.size
    omega))
  clear k6
  go_wp2_with fail
  refine (same_rows O26.out O36.out HK.out).mono ?_
  rintro r w7 ⟨rfl, b7⟩
  have FIN := aside (show StepOut w w7 B p m q N va L H HR from (HG0.out.still (bthen BB.out (bthen B6.out b7))))
  clear b7
  go_wp2
  go_ret
  exact ⟨rfl, FIN.out⟩
/-- What Sees tells. -/
def seeR (L l0 : List En) (node : Int) (l : List En) (ck : Int) : ByteArray × Int := if 0 ≤ node ∧ node < 8 then (if ck = 0 then (scanR L (prs l0 l)).getD (⟨#[]⟩, 0) else (⟨#[]⟩, ck)) else (⟨#[]⟩, 1)
/-- What is held at a node behind it. -/
def seeU (H : Nat → Hd) (node c : Int) (l : List En) (i : Nat) : List En := if c = 0 ∧ node = (i : Int) then l else (H i).l
theorem seeU_no {H : Nat → Hd} {node c : Int} {l : List En} (h : ¬ c = 0) (i : Nat) : (H i).l = seeU H node c l i := by
  unfold seeU
  rw [if_neg (fun h9 => h h9.1)]
theorem scanR_some {L : List En} {z : ByteArray × Int} : ∀ {P : List (En × En)}, scanR L P = some z → ¬ z.2 = 0
  | [], h => by cases h
  | x :: r, h => by
    have h1 : (match scanR1 L x with | some z => some z | none => scanR L r) = some z := h
    cases hx : scanR1 L x with
    | some y =>
      rw [hx] at h1
      injection h1 with h1
      rw [← h1]
      unfold scanR1 at hx
      split at hx
      · injection hx with hx; rw [← hx]; show ¬ (191 : Int) = 0; decide
      · split at hx
        · injection hx with hx; rw [← hx]; show ¬ (192 : Int) = 0; decide
        · cases hx
    | none => rw [hx] at h1; exact scanR_some h1
theorem gsees_r {w : World} {B p m N : Nat} {L : List En} {H : Nat → Hd} (h : Gh w B p m N L H) (node : Int) (b : Option Addr) (lb cb : Nat) (T : Nat → En) (hT : EntsIn w b lb cb T) (hf : (b = none ∧ lb = 0 ∧ cb = 0) ∨ ∃ y, b = some y) (hl : lb ≤ 1073741824) (hB : B ≤ w.heap.size) :
    Calls Try.prog 14 #[.pointer (some ⟨p, 0, none⟩), .int .i64 node, .slice b lb cb] w fun e w' => e = .returned (.tuple #[.string (seeR L (heldG H node).l node (firstE T lb) (ckN T lb)).1, .int .i64 (seeR L (heldG H node).l node (firstE T lb) (ckN T lb)).2]) ∧ Keeps (fun x => x = p) w w' ∧ ∃ H', Gh w' B p m N L H' ∧ (∀ i, i < 8 → (H' i).l = seeU H node (seeR L (heldG H node).l node (firstE T lb) (ckN T lb)).2 (firstE T lb) i) ∧ ∀ i, i < 8 → ∀ j, (H' i).v.ownBlock = some j → (H i).v.ownBlock = some j ∨ w.heap.size ≤ j := by
  by_cases hn : 0 ≤ node ∧ node < 8
  · obtain ⟨i, rfl⟩ : ∃ i : Nat, node = (i : Int) := ⟨node.toNat, by omega⟩
    have hi : i < 8 := by omega
    have hg : heldG H (i : Int) = H i := by unfold heldG; rw [if_pos hn, Int.toNat_natCast]
    rw [hg]
    by_cases hm : MapL (firstE T lb)
    · have h0 : ckN T lb = 0 := (ck_map lb).2 hm
      refine (gsees_any h i hi b lb cb T hT hf hl hm hB).mono ?_
      rintro e w' (⟨k, c, hs, rfl, hG, hb⟩ | ⟨hs, rfl, hb, hd, h1, h2, hfr, hG⟩)
      · rw [scan_same (h.maps i hi) hm] at hs
        have hz : seeR L (H i).l (i : Int) (firstE T lb) (ckN T lb) = (k, c) := by unfold seeR; rw [if_pos hn, if_pos h0, hs]; rfl
        exact ⟨by rw [hz], Keeps.of_below hb _, H, hG, fun k _ => by rw [hz]; exact seeU_no (scanR_some hs) k, fun _ _ _ hj => .inl hj⟩
      · rw [scan_same (h.maps i hi) hm] at hs
        have hz : seeR L (H i).l (i : Int) (firstE T lb) (ckN T lb) = (⟨#[]⟩, 0) := by unfold seeR; rw [if_pos hn, if_pos h0, hs]; rfl
        refine ⟨by rw [hz], hb, _, hG, fun k hk => ?_, fun k hk j hj => ?_⟩
        · rw [hz]
          unfold updH seeU
          by_cases e : k = i
          · rw [if_pos e, if_pos ⟨rfl, by omega⟩]; exact h1
          · rw [if_neg e, if_neg (fun h9 => e (by have := h9.2; omega))]
        · unfold updH at hj
          by_cases e : k = i
          · rw [if_pos e] at hj; exact .inr (hfr j hj)
          · rw [if_neg e] at hj; exact .inl hj
    · have hc : ¬ ckN T lb = 0 := fun h0 => hm ((ck_map lb).1 h0)
      refine (gsees_bad h i hi b lb cb T hT hf hl (c := ckN T lb) (fun A hA => ?_) hc).mono ?_
      · unfold ck2
        rw [if_neg]
        have : ckN A (H i).n = 0 := (ck_map _).2 (by rw [hA]; exact h.maps i hi)
        rw [this]; simp
      · rintro e w' ⟨rfl, hG, hb⟩
        have hz : seeR L (H i).l (i : Int) (firstE T lb) (ckN T lb) = (⟨#[]⟩, ckN T lb) := by unfold seeR; rw [if_pos hn, if_neg hc]
        exact ⟨by rw [hz], Keeps.of_below hb _, H, hG, fun k _ => by rw [hz]; exact seeU_no hc k, fun _ _ _ hj => .inl hj⟩
  · refine (gsees_node h node hn b lb cb).mono ?_
    rintro e w' ⟨rfl, hG, hb⟩
    have hz : seeR L (heldG H node).l node (firstE T lb) (ckN T lb) = (⟨#[]⟩, 1) := by unfold seeR; rw [if_neg hn]
    exact ⟨by rw [hz], Keeps.of_below hb _, H, hG, fun k _ => by rw [hz]; exact seeU_no (by decide) k, fun _ _ _ hj => .inl hj⟩
theorem rhsees_r {w : World} {B q : Nat} {va : Value} {L : List En} {H : Nat → Hd} (h : Rh w B q va L H) (h1 : OneW L) (node : Int) (b : Option Addr) (lb cb : Nat) (T : Nat → En) (hT : EntsIn w b lb cb T) (hf : (b = none ∧ lb = 0 ∧ cb = 0) ∨ ∃ y, b = some y) (hl : lb ≤ 1073741824) :
    Calls Try.prog 20 #[.pointer (some ⟨q, 0, none⟩), .int .i64 node, .slice b lb cb] w fun e w' => e = .returned (.tuple #[.string (seeR L (heldG H node).l node (firstE T lb) (ckN T lb)).1, .int .i64 (seeR L (heldG H node).l node (firstE T lb) (ckN T lb)).2]) ∧ Keeps (fun x => x = q) w w' ∧ ∃ H', Rh w' B q va L H' ∧ (∀ i, i < 8 → (H' i).l = seeU H node (seeR L (heldG H node).l node (firstE T lb) (ckN T lb)).2 (firstE T lb) i) ∧ ∀ i, i < 8 → ∀ j, (H' i).v.ownBlock = some j → (H i).v.ownBlock = some j ∨ w.heap.size ≤ j := by
  by_cases hn : 0 ≤ node ∧ node < 8
  · obtain ⟨i, rfl⟩ : ∃ i : Nat, node = (i : Int) := ⟨node.toNat, by omega⟩
    have hi : i < 8 := by omega
    have hg : heldG H (i : Int) = H i := by unfold heldG; rw [if_pos hn, Int.toNat_natCast]
    rw [hg]
    by_cases hm : MapL (firstE T lb)
    · have h0 : ckN T lb = 0 := (ck_map lb).2 hm
      refine (rhsees_any h i hi b lb cb T hT hf hl hm h1).mono ?_
      rintro e w' (⟨k, c, hs, rfl, hb⟩ | ⟨hs, rfl, hb, hd, h1, h2, hfr, hG⟩)
      · have hz : seeR L (H i).l (i : Int) (firstE T lb) (ckN T lb) = (k, c) := by unfold seeR; rw [if_pos hn, if_pos h0, hs]; rfl
        exact ⟨by rw [hz], Keeps.of_below hb _, H, h.on hb, fun k _ => by rw [hz]; exact seeU_no (scanR_some hs) k, fun _ _ _ hj => .inl hj⟩
      · have hz : seeR L (H i).l (i : Int) (firstE T lb) (ckN T lb) = (⟨#[]⟩, 0) := by unfold seeR; rw [if_pos hn, if_pos h0, hs]; rfl
        refine ⟨by rw [hz], hb, _, hG, fun k hk => ?_, fun k hk j hj => ?_⟩
        · rw [hz]
          unfold updH seeU
          by_cases e : k = i
          · rw [if_pos e, if_pos ⟨rfl, by omega⟩]; exact h1
          · rw [if_neg e, if_neg (fun h9 => e (by have := h9.2; omega))]
        · unfold updH at hj
          by_cases e : k = i
          · rw [if_pos e] at hj; exact .inr (hfr j hj)
          · rw [if_neg e] at hj; exact .inl hj
    · have hc : ¬ ckN T lb = 0 := fun h0 => hm ((ck_map lb).1 h0)
      refine (rhsees_bad w q i hi b lb cb T hT rfl hc).mono ?_
      rintro e w' ⟨rfl, hb⟩
      have hz : seeR L (H i).l (i : Int) (firstE T lb) (ckN T lb) = (⟨#[]⟩, ckN T lb) := by unfold seeR; rw [if_pos hn, if_neg hc]
      exact ⟨by rw [hz], Keeps.of_below hb _, H, h.on hb, fun k _ => by rw [hz]; exact seeU_no hc k, fun _ _ _ hj => .inl hj⟩
  · refine (rhsees_node w q node hn b lb cb).mono ?_
    rintro e w' ⟨rfl, hb⟩
    have hz : seeR L (heldG H node).l node (firstE T lb) (ckN T lb) = (⟨#[]⟩, 1) := by unfold seeR; rw [if_neg hn]
    exact ⟨by rw [hz], Keeps.of_below hb _, H, h.on hb, fun k _ => by rw [hz]; exact seeU_no (by decide) k, fun _ _ _ hj => .inl hj⟩
theorem entsIn_congr {w : World} {a : Option Addr} {n c : Nat} {A T : Nat → En} (h : EntsIn w a n c A) (e : ∀ i, i < n → A i = T i) : EntsIn w a n c T := by
  obtain ⟨h1, h2, h3⟩ := h
  refine ⟨h1, h2, ?_⟩
  rcases h3 with h3 | ⟨b, o, h4, h5, h6⟩
  · exact .inl h3
  · exact .inr ⟨b, o, h4, h5, fun i hi => by rw [← e i hi]; exact h6 i hi⟩
/-- The list that was lent, its front. -/
theorem lent_front {w : World} {B g n cp c : Nat} {b : Option Addr} {T : Nat → En} (h : w.ownsRow B 31 5 (.slice (some ⟨g, 0, none⟩) (n + 2) cp) (n + 2) (entCells (firstE T n ++ [mkE, bhE]))) (hT : EntsIn w b n c T) : EntsIn w (some ⟨g, 0, none⟩) n cp T := by
  have hl : (firstE T n ++ [mkE, bhE]).length = n + 2 := by simp [firstE_len]
  have hk : KeysOk (firstE T n ++ [mkE, bhE]) := fun e he => by
    rcases List.mem_append.1 he with h1 | h1
    · exact keysOf hT e h1
    · rcases List.mem_cons.1 h1 with h2 | h2
      · rw [h2]; decide
      · rw [List.mem_singleton.1 h2]; decide
  obtain ⟨hcp, hcm⟩ := row_max h
  have h1 := ents_of_row h hk (o := 0) (m := n) (c := cp) (by omega) (by omega) hcm (a := some ⟨g, 0, none⟩) (.inr (by simp))
  refine entsIn_congr h1 (fun i hi => ?_)
  rw [Nat.zero_add]
  have h2 := nthE_get (l := firstE T n ++ [mkE, bhE]) (i := i) (by omega)
  rw [List.getElem?_append_left (by rw [firstE_len]; exact hi), firstE_get _ hi] at h2
  injection h2 with h2
  exact h2.symm
/-- Sees of both, then still. -/
theorem Gs.sees {w : World} {B p m q N : Nat} {va : Value} {L : List En} {H HR : Nat → Hd} {w0 w1 w2 w3 w4 : World} {g : Nat} {H1 HR1 : Nat → Hd} {node c : Int} {l : List En} (h : Gs w B p m q N va L H HR) (b0 : Below w0.heap.size w0 w) (hg : w.heap.size ≤ g) (b1 : Below w.heap.size w w1) (hg1 : g < w1.heap.size)
    (k2 : Keeps (fun x => x = p) w1 w2) (g2 : Gh w2 B p m N L H1) (s1 : ∀ i, i < 8 → (H1 i).l = seeU H node c l i) (f1 : ∀ i, i < 8 → ∀ j, (H1 i).v.ownBlock = some j → (H i).v.ownBlock = some j ∨ w1.heap.size ≤ j)
    (k3 : Keeps (fun x => x = q) w2 w3) (r3 : Rh w3 B q va L HR1) (s2 : ∀ i, i < 8 → (HR1 i).l = seeU HR node c l i) (f2 : ∀ i, i < 8 → ∀ j, (HR1 i).v.ownBlock = some j → (HR i).v.ownBlock = some j ∨ w2.heap.size ≤ j)
    (k4 : Keeps (fun x => x = g) w3 w4) : StepOut w0 w4 B p m q N va L H HR := by
  have r2 : Rh w2 B q va L HR := (h.on b1).rp k2
  have hva : ∀ j, va.ownBlock = some j → j < w.heap.size := fun j hj => h.lt (.inr (.inr (.inr (.inl hj))))
  have hb1 := b1.size
  have ap1 : ∀ i, i < 8 → ∀ j, (H1 i).v.ownBlock = some j → ¬ va.ownBlock = some j := fun i hi j hj h9 => by
    rcases f1 i hi j hj with h8 | h8
    · exact h.ap i hi j h8 h9
    · have := hva j h9; omega
  have g3 := ghKeep g2 r2 ap1 (k3.mono (S' := fun x => x = q ∨ va.ownBlock = some x) (fun k _ e => .inl e))
  have gs : Gs w3 B p m q N va L H1 HR1 := ⟨g3, r3, fun i hi => by
    rw [s1 i hi, s2 i hi]
    unfold seeU
    rw [h.same i hi], ap1⟩
  have hs2 := k2.size
  have ft : ∀ k, foot p m q va H1 HR1 k → foot p m q va H HR k ∨ w1.heap.size ≤ k := fun k hk => by
    rcases hk with hk | hk | hk | hk | ⟨i, hi, hk | hk⟩
    · exact .inl (.inl hk)
    · exact .inl (.inr (.inl hk))
    · exact .inl (.inr (.inr (.inl hk)))
    · exact .inl (.inr (.inr (.inr (.inl hk))))
    · rcases f1 i hi k hk with h8 | h8
      · exact .inl (.inr (.inr (.inr (.inr ⟨i, hi, .inl h8⟩))))
      · exact .inr h8
    · rcases f2 i hi k hk with h8 | h8
      · exact .inl (.inr (.inr (.inr (.inr ⟨i, hi, .inr h8⟩))))
      · exact .inr (by omega)
  have hb0 := b0.size
  refine ⟨N, va, L, H1, HR1, gs.keep k4 (fun j hj e => ?_), by omega, by omega, ?_, fun k hk => ?_⟩
  · rcases ft j hj with h8 | h8
    · have := h.lt h8; omega
    · omega
  · have kk : Keeps (fun x => turnsG p m q va x ∨ x = g) w0 w4 := ((((Keeps.of_below b0 _).trans (Keeps.of_below b1 _)).trans (k2.mono (fun k _ e => .inl (.inl e)))).trans (k3.mono (fun k _ e => .inl (.inr (.inr (.inl e)))))).trans (k4.mono (fun k _ e => .inr e))
    refine kk.mono (fun k hk e => ?_)
    rcases e with e | e
    · exact e
    · omega
  · rcases ft k hk with h8 | h8
    · exact .inl h8
    · exact .inr (by omega)
set_option maxHeartbeats 16000000 in
set_option maxRecDepth 100000 in
theorem step_sees {w : World} {B p m q N : Nat} {va : Value} {L : List En} {H HR : Nat → Hd} {W0 : World} (h : Gs w B p m q N va L H HR) (o : Gop) (hW : o.In W0) (hw0 : Below W0.heap.size W0 w) (hWB : W0.heap.size ≤ B) (hn : o.l.n ≤ 1073741824) : Calls Try.prog 8 #[.pointer (some ⟨p, 0, none⟩), .pointer (some ⟨q, 0, none⟩), .agg #[.int .i64 2, .int .i64 o.node, .string o.e.k, .int .i64 o.e.c, .int .i64 o.e.n, .string o.e.v, .bool o.e.d, .slice o.l.a o.l.n o.l.c, .bool o.snd]] w fun e w' => e = .returned (.bool true) ∧ StepOut w w' B p m q N va L H HR := by
  have ho := hW.keep hw0
  have HW := aside hW
  have HW0 := aside hw0
  have HWB := aside hWB
  have HEQ := aside (h.heldSame o.node)
  obtain ⟨z, hz⟩ : ∃ z, seeR L (heldG H o.node).l o.node (firstE o.l.T o.l.n) (ckN o.l.T o.l.n) = z := ⟨_, rfl⟩
  have HZ := aside hz
  have HN := aside hn
  clear hz hn hW hw0 hWB
  obtain ⟨b, hb⟩ : ∃ b, w.heap.size = b := ⟨_, rfl⟩
  obtain ⟨V, hV⟩ : ∃ V, w.alloc (.cells #[.int .i64 2, .int .i64 o.node, .string o.e.k, .int .i64 o.e.c, .int .i64 o.e.n, .string o.e.v, .bool o.e.d, .slice o.l.a o.l.n o.l.c, .bool o.snd] 34) = V := ⟨_, rfl⟩
  have kb := heap_alloc_new w (.cells #[.int .i64 2, .int .i64 o.node, .string o.e.k, .int .i64 o.e.c, .int .i64 o.e.n, .string o.e.v, .bool o.e.d, .slice o.l.a o.l.n o.l.c, .bool o.snd] 34)
  have bb := bnew w (.cells #[.int .i64 2, .int .i64 o.node, .string o.e.k, .int .i64 o.e.c, .int .i64 o.e.n, .string o.e.v, .bool o.e.d, .slice o.l.a o.l.n o.l.c, .bool o.snd] 34)
  rw [hV] at kb bb
  rw [hb] at kb
  have KB := aside kb
  have BB := aside bb
  have HG0 := aside h
  have HG := aside (h.on bb)
  have HO := aside ho
  obtain ⟨c0, c1, c2, c3, c4, c5, c6, c7, c8⟩ := nine kb
  clear h ho kb bb
  go_enter Try.func8, Try.ntmps8
  go_upto_region 1 with fail
  try rw [hV]
  try rw [hb]
  clear hV hb
  have HOV := aside (HO.out.keep BB.out)
  go_wp2_with fail
  refine (lent19_any o.l.a o.l.n o.l.c o.l.T V HOV.out.1.1 HOV.out.1.2 HN.out).mono ?_
  rintro r w1 ⟨g, cp, rfl, o1, b1⟩
  have B1 := aside b1
  have O1 := aside o1
  obtain ⟨c0, c1, c2, c3, c4, c5, c6, c7, c8⟩ := nine (blk_on KB.out b1)
  have SX := aside (fun (W : World) (kk : Keeps (fun x => x = p) w1 W) => (show W.cell? ⟨b, 0, none⟩ = some (.int .i64 2) ∧ W.cell? ⟨b, 1, none⟩ = some (.int .i64 o.node) ∧ W.cell? ⟨b, 2, none⟩ = some (.string o.e.k) ∧ W.cell? ⟨b, 3, none⟩ = some (.int .i64 o.e.c) ∧ W.cell? ⟨b, 4, none⟩ = some (.int .i64 o.e.n) ∧ W.cell? ⟨b, 5, none⟩ = some (.string o.e.v) ∧ W.cell? ⟨b, 6, none⟩ = some (.bool o.e.d) ∧ W.cell? ⟨b, 7, none⟩ = some (.slice o.l.a o.l.n o.l.c) ∧ W.cell? ⟨b, 8, none⟩ = some (.bool o.snd) from nine (blk_keep (blk_on KB.out b1) kk (fun h9 => HG.out.nob KB.out (.inl h9)))))
  have hcp := (row_max o1).1
  have hcm := (row_max o1).2
  have hn0 : (0 : Int) ≤ (o.l.n : Int) := by omega
  have hnc : (o.l.n : Int) ≤ (cp : Int) := by omega
  have hcx : (cp : Int) ≤ 9223372036854775807 := by unfold maxLen at hcm; omega
  have hb0 : Below w1.heap.size w1 w1.drew := (Below.refl _ w1).drew
  clear o1 b1 hcp hcm
  go_wp2_with fail
  refine wp_region_held_drew (S := fun W => (W.cell? ⟨b, 0, none⟩ = some (.int .i64 2) ∧ W.cell? ⟨b, 1, none⟩ = some (.int .i64 o.node) ∧ W.cell? ⟨b, 2, none⟩ = some (.string o.e.k) ∧ W.cell? ⟨b, 3, none⟩ = some (.int .i64 o.e.c) ∧ W.cell? ⟨b, 4, none⟩ = some (.int .i64 o.e.n) ∧ W.cell? ⟨b, 5, none⟩ = some (.string o.e.v) ∧ W.cell? ⟨b, 6, none⟩ = some (.bool o.e.d) ∧ W.cell? ⟨b, 7, none⟩ = some (.slice o.l.a o.l.n o.l.c) ∧ W.cell? ⟨b, 8, none⟩ = some (.bool o.snd))) (by kernel_rfl) (SX.out _ (Keeps.of_below hb0 _)) (fun hHeld => ?_)
  refine wpAnyH_take (i := 0) (v := ?_) rfl (by kernel_rfl) (by kernel_rfl) (by kernel_rfl) (fun _ _ _ h => h) (Or.inl ⟨by rfl, ?_⟩) (by assumption) ?_
  rotate_left
  · intro w hSw
    go_simp
    try with_reducible rfl
  simp only [Act.put, List.getElem_toArray, List.getElem_cons_zero, List.setIfInBounds_toArray, List.set_cons_zero, List.set_cons_succ]
  refine wpAnyH_take (i := 1) (v := ?_) rfl (by kernel_rfl) (by kernel_rfl) (by kernel_rfl) (fun _ _ _ h => h) (Or.inl ⟨by rfl, ?_⟩) (by assumption) ?_
  rotate_left
  · intro w hSw
    go_simp
    try with_reducible rfl
  simp only [Act.put, List.getElem_toArray, List.getElem_cons_zero, List.getElem_cons_succ, List.setIfInBounds_toArray, List.set_cons_zero, List.set_cons_succ]
  refine wpAnyH_take (i := 2) (v := ?_) rfl (by kernel_rfl) (by kernel_rfl) (by kernel_rfl) (fun _ _ _ h => h) (Or.inl ⟨by rfl, ?_⟩) (by assumption) ?_
  rotate_left
  · intro w hSw
    go_simp
    try with_reducible rfl
  simp only [Act.put, List.getElem_toArray, List.getElem_cons_zero, List.getElem_cons_succ, List.setIfInBounds_toArray, List.set_cons_zero, List.set_cons_succ]
  refine wpAnyH_take (i := 3) (v := ?_) rfl (by kernel_rfl) (by kernel_rfl) (by kernel_rfl) (fun _ _ _ h => h) (Or.inl ⟨by rfl, ?_⟩) (by assumption) ?_
  rotate_left
  · intro w hSw
    go_simp
    try with_reducible rfl
  simp only [Act.put, List.getElem_toArray, List.getElem_cons_zero, List.getElem_cons_succ, List.setIfInBounds_toArray, List.set_cons_zero, List.set_cons_succ]
  refine wpAnyH_take (i := 4) (v := ?_) rfl (by kernel_rfl) (by kernel_rfl) (by kernel_rfl) (fun _ _ _ h => h) (Or.inl ⟨by rfl, ?_⟩) (by assumption) ?_
  rotate_left
  · intro w hSw
    go_simp
    try with_reducible rfl
  simp only [Act.put, List.getElem_toArray, List.getElem_cons_zero, List.getElem_cons_succ, List.setIfInBounds_toArray, List.set_cons_zero, List.set_cons_succ]
  refine wpAnyH_take (i := 5) (v := ?_) rfl (by kernel_rfl) (by kernel_rfl) (by kernel_rfl) (fun _ _ _ h => h) (Or.inl ⟨by rfl, ?_⟩) (by assumption) ?_
  rotate_left
  · intro w hSw
    go_simp
    try with_reducible rfl
  simp only [Act.put, List.getElem_toArray, List.getElem_cons_zero, List.getElem_cons_succ, List.setIfInBounds_toArray, List.set_cons_zero, List.set_cons_succ]
  refine wpAnyH_take (i := 6) (v := ?_) rfl (by kernel_rfl) (by kernel_rfl) (by kernel_rfl) (fun _ _ _ h => h) (Or.inl ⟨by rfl, ?_⟩) (by assumption) ?_
  rotate_left
  · intro w hSw
    go_simp
    try with_reducible rfl
  simp only [Act.put, List.getElem_toArray, List.getElem_cons_zero, List.getElem_cons_succ, List.setIfInBounds_toArray, List.set_cons_zero, List.set_cons_succ]
  refine wpAnyH_take (i := 7) (v := ?_) rfl (by kernel_rfl) (by kernel_rfl) (by kernel_rfl) (fun _ _ _ h => h) (Or.inl ⟨by rfl, ?_⟩) (by assumption) ?_
  rotate_left
  · intro w hSw
    go_simp
    try with_reducible rfl
  simp only [Act.put, List.getElem_toArray, List.getElem_cons_zero, List.getElem_cons_succ, List.setIfInBounds_toArray, List.set_cons_zero, List.set_cons_succ]
  clear c0 c1 c2 c3 c4 c5 c6 c7 c8
  refine wpAnyH_ready (rs := [8]) (by kernel_rfl) (by simp) ?_
  refine AllReadyH.cons rfl (fun K hK => ?_) AllReadyH.nil
  go_simp
  refine (gsees_r (HG.out.on (bthen B1.out hb0)).g o.node (some ⟨g, 0, none⟩) o.l.n cp o.l.T (lent_front (own_on O1.out hb0) (HOV.out.1.1.keep (bthen B1.out hb0))) (.inr ⟨_, rfl⟩) HN.out (by have h7 := HG.out.g.pB; have h8 := lt_of_blk HG.out.g.bx; have h9 := (bthen B1.out hb0).size; omega)).mono ?_
  rintro r w2 ⟨rfl, k2, H1, g2, s1, f1⟩
  rw [HZ.out] at s1 ⊢
  have K2 := aside k2
  have G2 := aside g2
  have S1 := aside s1
  have F1 := aside f1
  refine hK.out _ _ (SX.out _ ((Keeps.of_below hb0 _).trans k2)) (fun hHeld => ?_)
  clear hK K k2 g2 s1 f1
  try simp only [Act.put, List.getElem_toArray, List.getElem_cons_zero, List.getElem_cons_succ, List.setIfInBounds_toArray, List.set_cons_zero, List.set_cons_succ]
  refine wpAnyH_take (i := 9) (v := ?_) rfl (by kernel_rfl) (by kernel_rfl) (by kernel_rfl) (fun _ _ _ h => h) (Or.inl ⟨by rfl, ?_⟩) (by assumption) ?_
  rotate_left
  · intro w hSw
    go_simp
    try with_reducible rfl
  simp only [Act.put, List.getElem_toArray, List.getElem_cons_zero, List.getElem_cons_succ, List.setIfInBounds_toArray, List.set_cons_zero, List.set_cons_succ]
  refine wpAnyH_take (i := 10) (v := ?_) rfl (by kernel_rfl) (by kernel_rfl) (by kernel_rfl) (fun _ _ _ h => h) (Or.inl ⟨by rfl, ?_⟩) (by assumption) ?_
  rotate_left
  · intro w hSw
    go_simp
    try with_reducible rfl
  simp only [Act.put, List.getElem_toArray, List.getElem_cons_zero, List.getElem_cons_succ, List.setIfInBounds_toArray, List.set_cons_zero, List.set_cons_succ]
  refine wpAnyH_take (i := 11) (v := ?_) rfl (by kernel_rfl) (by kernel_rfl) (by kernel_rfl) (fun _ _ _ h => h) (Or.inl ⟨by rfl, ?_⟩) (by assumption) ?_
  rotate_left
  · intro w hSw
    go_simp
    try with_reducible rfl
  simp only [Act.put, List.getElem_toArray, List.getElem_cons_zero, List.getElem_cons_succ, List.setIfInBounds_toArray, List.set_cons_zero, List.set_cons_succ]
  refine wpAnyH_take (i := 12) (v := ?_) rfl (by kernel_rfl) (by kernel_rfl) (by kernel_rfl) (fun _ _ _ h => h) (Or.inl ⟨by rfl, ?_⟩) (by assumption) ?_
  rotate_left
  · intro w hSw
    go_simp
    try with_reducible rfl
  simp only [Act.put, List.getElem_toArray, List.getElem_cons_zero, List.getElem_cons_succ, List.setIfInBounds_toArray, List.set_cons_zero, List.set_cons_succ]
  refine wpAnyH_take (i := 13) (v := ?_) rfl (by kernel_rfl) (by kernel_rfl) (by kernel_rfl) (fun _ _ _ h => h) (Or.inl ⟨by rfl, ?_⟩) (by assumption) ?_
  rotate_left
  · intro w hSw
    go_simp
    try with_reducible rfl
  simp only [Act.put, List.getElem_toArray, List.getElem_cons_zero, List.getElem_cons_succ, List.setIfInBounds_toArray, List.set_cons_zero, List.set_cons_succ]
  refine wpAnyH_done (by kernel_rfl) ?_ _
  obtain ⟨d0, d1, d2, d3, d4, d5, d6, d7, d8⟩ := hHeld
  clear SX
  have BV := aside (bthen B1.out hb0)
  have G1 := aside (HG.out.on BV.out)
  have W2 := aside ((bthen HW0.out (bthen BB.out BV.out)).trans (K2.out.below (bthen HW0.out (bthen BB.out BV.out)).size (fun j hj e => by have h7 := HG.out.g.pB; have h8 := HWB.out; omega)))
  have O2 := aside (ownsRow_keep (own_on O1.out hb0) K2.out (fun j hj e => by
    have h7 := (row_blkM O1.out hj).1
    have h8 := lt_of_blk HG.out.g.bx
    omega))
  have CR := aside (rhsees_r (G1.out.rp K2.out) HG.out.oneW o.node o.l.a o.l.n o.l.c o.l.T (HW.out.keep W2.out).1.1 (HW.out.keep W2.out).1.2 HN.out)
  rw [← HEQ.out, HZ.out] at CR
  go_wp2_with fail
  refine CR.out.mono ?_
  rintro r w3 ⟨rfl, k3, HR1, r3, s2, f2⟩
  have K3 := aside k3
  have R3 := aside r3
  have S2 := aside s2
  have F2 := aside f2
  have KB3 := aside (blk_keep (blk_keep (blk_on KB.out BV.out) K2.out (fun h9 => HG.out.nob KB.out (.inl h9))) k3 (fun h9 => HG.out.nob KB.out (.inr (.inr (.inl h9)))))
  obtain ⟨e0, e1, e2, e3, e4, e5, e6, e7, e8⟩ := nine KB3.out
  have W3 := aside (W2.out.trans (k3.below W2.out.size (fun j hj e => by have h7 := HG.out.r.qB; have h8 := HWB.out; omega)))
  have O3 := aside (ownsRow_keep O2.out k3 (fun j hj e => by
    have h7 := (row_blkM O1.out hj).1
    have h8 := lt_of_blk HG.out.r.bx
    omega))
  have CST := aside (still19_any V.heap.size g o.l.n cp o.l.a o.l.c o.l.T w3 O3.out (HW.out.keep W3.out).1.1 HN.out)
  clear d0 d1 d2 d3 d4 d5 d6 d7 d8 k3 r3 s2 f2 CR
  have hS : (z.1.toList == z.1.toList) = true := by simp
  have hS2 : (z.2 == z.2) = true := by simp
  go_wp2_with fail
  refine CST.out.mono ?_
  rintro r w4 ⟨rfl, k4⟩
  have HGG := aside (show V.heap.size ≤ g ∧ g < w1.heap.size from by
    obtain ⟨h7, cs, h8⟩ := row_blkM O1.out (r := g) rfl
    exact ⟨h7, lt_of_blk h8⟩)
  have FIN := aside (HG.out.sees BB.out HGG.out.1 BV.out HGG.out.2 K2.out G2.out S1.out F1.out K3.out R3.out S2.out F2.out k4)
  clear k4 e0 e1 e2 e3 e4 e5 e6 e7 e8
  go_wp2
  go_ret
  exact ⟨rfl, FIN.out⟩
end Go.Proofs.Ytfkdhambbpkmpaa

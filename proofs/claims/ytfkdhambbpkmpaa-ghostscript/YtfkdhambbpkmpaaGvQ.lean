/-
  One call at both ghosts: Sees.
-/
import Derived.Test.YtfkdhambbpkmpaaGvN
namespace Go.Proofs.Ytfkdhambbpkmpaa
open Go.RowKit
set_option linter.unusedVariables false

theorem entsIn_congr {w : World} {a : Option Addr} {n c : Nat} {A T : Nat → En} (h : EntsIn w a n c A) (e : ∀ i, i < n → A i = T i) : EntsIn w a n c T := by
  obtain ⟨h1, h2, h3⟩ := h
  refine ⟨h1, h2, ?_⟩
  rcases h3 with h3 | ⟨b, o, h4, h5, h6⟩
  · exact .inl h3
  · exact .inr ⟨b, o, h4, h5, fun i hi => by rw [← e i hi]; exact h6 i hi⟩
/-- The list that was lent, its front. -/
theorem lent_front {w : World} {B g n cp c : Nat} {b : Option Addr} {T : Nat → En} (h : w.ownsRow B 31 5 (.slice (some ⟨g, 0, none⟩) (n + 2) cp) (n + 2) (entCells (firstE T n ++ [mkE, bhE]))) (hT : EntsIn w b n c T) : EntsIn w (some ⟨g, 0, none⟩) n cp T := by
  have hl : (firstE T n ++ [mkE, bhE]).length = n + 2 := by simp [firstE_len]
  have hk : KeysOk (firstE T n ++ [mkE, bhE]) := fun e he => by
    rcases List.mem_append.1 he with h1 | h1
    · exact keysOf hT e h1
    · rcases List.mem_cons.1 h1 with h2 | h2
      · rw [h2]; decide
      · rw [List.mem_singleton.1 h2]; decide
  obtain ⟨hcp, hcm⟩ := row_max h
  have h1 := ents_of_row h hk (o := 0) (m := n) (c := cp) (by omega) (by omega) hcm (a := some ⟨g, 0, none⟩) (.inr (by simp))
  refine entsIn_congr h1 (fun i hi => ?_)
  rw [Nat.zero_add]
  have h2 := nthE_get (l := firstE T n ++ [mkE, bhE]) (i := i) (by omega)
  rw [List.getElem?_append_left (by rw [firstE_len]; exact hi), firstE_get _ hi] at h2
  injection h2 with h2
  exact h2.symm
/-- Sees of both, then still. -/
theorem Gs.sees {w : World} {B p m q N : Nat} {va : Value} {L : List En} {H HR : Nat → Hd} {w0 w1 w2 w3 w4 : World} {g : Nat} {H1 HR1 : Nat → Hd} {node c : Int} {l : List En} (h : Gs w B p m q N va L H HR) (b0 : Below w0.heap.size w0 w) (hg : w.heap.size ≤ g) (b1 : Below w.heap.size w w1) (hg1 : g < w1.heap.size)
    (k2 : Keeps (fun x => x = p) w1 w2) (g2 : Gh w2 B p m N L H1) (s1 : ∀ i, i < 8 → (H1 i).l = seeU H node c l i) (f1 : ∀ i, i < 8 → ∀ j, (H1 i).v.ownBlock = some j → (H i).v.ownBlock = some j ∨ w1.heap.size ≤ j)
    (k3 : Keeps (fun x => x = q) w2 w3) (r3 : Rh w3 B q va L HR1) (s2 : ∀ i, i < 8 → (HR1 i).l = seeU HR node c l i) (f2 : ∀ i, i < 8 → ∀ j, (HR1 i).v.ownBlock = some j → (HR i).v.ownBlock = some j ∨ w2.heap.size ≤ j)
    (k4 : Keeps (fun x => x = g) w3 w4) : StepOut w0 w4 B p m q N va L H HR := by
  have r2 : Rh w2 B q va L HR := (h.on b1).rp k2
  have hva : ∀ j, va.ownBlock = some j → j < w.heap.size := fun j hj => h.lt (.inr (.inr (.inr (.inl hj))))
  have hb1 := b1.size
  have ap1 : ∀ i, i < 8 → ∀ j, (H1 i).v.ownBlock = some j → ¬ va.ownBlock = some j := fun i hi j hj h9 => by
    rcases f1 i hi j hj with h8 | h8
    · exact h.ap i hi j h8 h9
    · have := hva j h9; omega
  have g3 := ghKeep g2 r2 ap1 (k3.mono (S' := fun x => x = q ∨ va.ownBlock = some x) (fun k _ e => .inl e))
  have gs : Gs w3 B p m q N va L H1 HR1 := ⟨g3, r3, fun i hi => by
    rw [s1 i hi, s2 i hi]
    unfold seeU
    rw [h.same i hi], ap1⟩
  have hs2 := k2.size
  have ft : ∀ k, foot p m q va H1 HR1 k → foot p m q va H HR k ∨ w1.heap.size ≤ k := fun k hk => by
    rcases hk with hk | hk | hk | hk | ⟨i, hi, hk | hk⟩
    · exact .inl (.inl hk)
    · exact .inl (.inr (.inl hk))
    · exact .inl (.inr (.inr (.inl hk)))
    · exact .inl (.inr (.inr (.inr (.inl hk))))
    · rcases f1 i hi k hk with h8 | h8
      · exact .inl (.inr (.inr (.inr (.inr ⟨i, hi, .inl h8⟩))))
      · exact .inr h8
    · rcases f2 i hi k hk with h8 | h8
      · exact .inl (.inr (.inr (.inr (.inr ⟨i, hi, .inr h8⟩))))
      · exact .inr (by omega)
  have hb0 := b0.size
  refine ⟨N, va, L, H1, HR1, gs.keep k4 (fun j hj e => ?_), by omega, by omega, ?_, fun k hk => ?_⟩
  · rcases ft j hj with h8 | h8
    · have := h.lt h8; omega
    · omega
  · have kk : Keeps (fun x => turnsG p m q va x ∨ x = g) w0 w4 := ((((Keeps.of_below b0 _).trans (Keeps.of_below b1 _)).trans (k2.mono (fun k _ e => .inl (.inl e)))).trans (k3.mono (fun k _ e => .inl (.inr (.inr (.inl e)))))).trans (k4.mono (fun k _ e => .inr e))
    refine kk.mono (fun k hk e => ?_)
    rcases e with e | e
    · exact e
    · omega
  · rcases ft k hk with h8 | h8
    · exact .inl h8
    · exact .inr (by omega)
set_option maxHeartbeats 16000000 in
set_option maxRecDepth 100000 in
theorem step_sees {w : World} {B p m q N : Nat} {va : Value} {L : List En} {H HR : Nat → Hd} {W0 : World} (h : Gs w B p m q N va L H HR) (o : Gop) (hW : o.In W0) (hw0 : Below W0.heap.size W0 w) (hWB : W0.heap.size ≤ B) (hn : o.l.n ≤ 1073741824) : Calls Try.prog 8 #[.pointer (some ⟨p, 0, none⟩), .pointer (some ⟨q, 0, none⟩), .agg #[.int .i64 2, .int .i64 o.node, .string o.e.k, .int .i64 o.e.c, .int .i64 o.e.n, .string o.e.v, .bool o.e.d, .slice o.l.a o.l.n o.l.c, .bool o.snd]] w fun e w' => e = .returned (.bool true) ∧ StepOut w w' B p m q N va L H HR := by
  have ho := hW.keep hw0
  have HW := aside hW
  have HW0 := aside hw0
  have HWB := aside hWB
  have HEQ := aside (h.heldSame o.node)
  obtain ⟨z, hz⟩ : ∃ z, seeR L (heldG H o.node).l o.node (firstE o.l.T o.l.n) (ckN o.l.T o.l.n) = z := ⟨_, rfl⟩
  have HZ := aside hz
  have HN := aside hn
  clear hz hn hW hw0 hWB
  obtain ⟨b, hb⟩ : ∃ b, w.heap.size = b := ⟨_, rfl⟩
  obtain ⟨V, hV⟩ : ∃ V, w.alloc (.cells #[.int .i64 2, .int .i64 o.node, .string o.e.k, .int .i64 o.e.c, .int .i64 o.e.n, .string o.e.v, .bool o.e.d, .slice o.l.a o.l.n o.l.c, .bool o.snd] 34) = V := ⟨_, rfl⟩
  have kb := heap_alloc_new w (.cells #[.int .i64 2, .int .i64 o.node, .string o.e.k, .int .i64 o.e.c, .int .i64 o.e.n, .string o.e.v, .bool o.e.d, .slice o.l.a o.l.n o.l.c, .bool o.snd] 34)
  have bb := bnew w (.cells #[.int .i64 2, .int .i64 o.node, .string o.e.k, .int .i64 o.e.c, .int .i64 o.e.n, .string o.e.v, .bool o.e.d, .slice o.l.a o.l.n o.l.c, .bool o.snd] 34)
  rw [hV] at kb bb
  rw [hb] at kb
  have KB := aside kb
  have BB := aside bb
  have HG0 := aside h
  have HG := aside (h.on bb)
  have HO := aside ho
  obtain ⟨c0, c1, c2, c3, c4, c5, c6, c7, c8⟩ := nine kb
  clear h ho kb bb
  go_enter Try.func8, Try.ntmps8
  go_upto_region 1 with fail
  try rw [hV]
  try rw [hb]
  clear hV hb
  have HOV := aside (HO.out.keep BB.out)
  go_wp2_with fail
  refine (lent19_any o.l.a o.l.n o.l.c o.l.T V HOV.out.1.1 HOV.out.1.2 HN.out).mono ?_
  rintro r w1 ⟨g, cp, rfl, o1, b1⟩
  have B1 := aside b1
  have O1 := aside o1
  obtain ⟨c0, c1, c2, c3, c4, c5, c6, c7, c8⟩ := nine (blk_on KB.out b1)
  have SX := aside (fun (W : World) (kk : Keeps (fun x => x = p) w1 W) => (show W.cell? ⟨b, 0, none⟩ = some (.int .i64 2) ∧ W.cell? ⟨b, 1, none⟩ = some (.int .i64 o.node) ∧ W.cell? ⟨b, 2, none⟩ = some (.string o.e.k) ∧ W.cell? ⟨b, 3, none⟩ = some (.int .i64 o.e.c) ∧ W.cell? ⟨b, 4, none⟩ = some (.int .i64 o.e.n) ∧ W.cell? ⟨b, 5, none⟩ = some (.string o.e.v) ∧ W.cell? ⟨b, 6, none⟩ = some (.bool o.e.d) ∧ W.cell? ⟨b, 7, none⟩ = some (.slice o.l.a o.l.n o.l.c) ∧ W.cell? ⟨b, 8, none⟩ = some (.bool o.snd) from nine (blk_keep (blk_on KB.out b1) kk (fun h9 => HG.out.nob KB.out (.inl h9)))))
  have hcp := (row_max o1).1
  have hcm := (row_max o1).2
  have hn0 : (0 : Int) ≤ (o.l.n : Int) := by omega
  have hnc : (o.l.n : Int) ≤ (cp : Int) := by omega
  have hcx : (cp : Int) ≤ 9223372036854775807 := by unfold maxLen at hcm; omega
  have hb0 : Below w1.heap.size w1 w1.drew := (Below.refl _ w1).drew
  clear o1 b1 hcp hcm
  go_wp2_with fail
  refine wp_region_held_drew (S := fun W => (W.cell? ⟨b, 0, none⟩ = some (.int .i64 2) ∧ W.cell? ⟨b, 1, none⟩ = some (.int .i64 o.node) ∧ W.cell? ⟨b, 2, none⟩ = some (.string o.e.k) ∧ W.cell? ⟨b, 3, none⟩ = some (.int .i64 o.e.c) ∧ W.cell? ⟨b, 4, none⟩ = some (.int .i64 o.e.n) ∧ W.cell? ⟨b, 5, none⟩ = some (.string o.e.v) ∧ W.cell? ⟨b, 6, none⟩ = some (.bool o.e.d) ∧ W.cell? ⟨b, 7, none⟩ = some (.slice o.l.a o.l.n o.l.c) ∧ W.cell? ⟨b, 8, none⟩ = some (.bool o.snd))) (by kernel_rfl) (SX.out _ (Keeps.of_below hb0 _)) (fun hHeld => ?_)
  refine wpAnyH_take (i := 0) (v := ?_) rfl (by kernel_rfl) (by kernel_rfl) (by kernel_rfl) (fun _ _ _ h => h) (Or.inl ⟨by rfl, ?_⟩) (by assumption) ?_
  rotate_left
  · intro w hSw
    go_simp
    try with_reducible rfl
  simp only [Act.put, List.getElem_toArray, List.getElem_cons_zero, List.setIfInBounds_toArray, List.set_cons_zero, List.set_cons_succ]
  refine wpAnyH_take (i := 1) (v := ?_) rfl (by kernel_rfl) (by kernel_rfl) (by kernel_rfl) (fun _ _ _ h => h) (Or.inl ⟨by rfl, ?_⟩) (by assumption) ?_
  rotate_left
  · intro w hSw
    go_simp
    try with_reducible rfl
  simp only [Act.put, List.getElem_toArray, List.getElem_cons_zero, List.getElem_cons_succ, List.setIfInBounds_toArray, List.set_cons_zero, List.set_cons_succ]
  refine wpAnyH_take (i := 2) (v := ?_) rfl (by kernel_rfl) (by kernel_rfl) (by kernel_rfl) (fun _ _ _ h => h) (Or.inl ⟨by rfl, ?_⟩) (by assumption) ?_
  rotate_left
  · intro w hSw
    go_simp
    try with_reducible rfl
  simp only [Act.put, List.getElem_toArray, List.getElem_cons_zero, List.getElem_cons_succ, List.setIfInBounds_toArray, List.set_cons_zero, List.set_cons_succ]
  refine wpAnyH_take (i := 3) (v := ?_) rfl (by kernel_rfl) (by kernel_rfl) (by kernel_rfl) (fun _ _ _ h => h) (Or.inl ⟨by rfl, ?_⟩) (by assumption) ?_
  rotate_left
  · intro w hSw
    go_simp
    try with_reducible rfl
  simp only [Act.put, List.getElem_toArray, List.getElem_cons_zero, List.getElem_cons_succ, List.setIfInBounds_toArray, List.set_cons_zero, List.set_cons_succ]
  refine wpAnyH_take (i := 4) (v := ?_) rfl (by kernel_rfl) (by kernel_rfl) (by kernel_rfl) (fun _ _ _ h => h) (Or.inl ⟨by rfl, ?_⟩) (by assumption) ?_
  rotate_left
  · intro w hSw
    go_simp
    try with_reducible rfl
  simp only [Act.put, List.getElem_toArray, List.getElem_cons_zero, List.getElem_cons_succ, List.setIfInBounds_toArray, List.set_cons_zero, List.set_cons_succ]
  refine wpAnyH_take (i := 5) (v := ?_) rfl (by kernel_rfl) (by kernel_rfl) (by kernel_rfl) (fun _ _ _ h => h) (Or.inl ⟨by rfl, ?_⟩) (by assumption) ?_
  rotate_left
  · intro w hSw
    go_simp
    try with_reducible rfl
  simp only [Act.put, List.getElem_toArray, List.getElem_cons_zero, List.getElem_cons_succ, List.setIfInBounds_toArray, List.set_cons_zero, List.set_cons_succ]
  refine wpAnyH_take (i := 6) (v := ?_) rfl (by kernel_rfl) (by kernel_rfl) (by kernel_rfl) (fun _ _ _ h => h) (Or.inl ⟨by rfl, ?_⟩) (by assumption) ?_
  rotate_left
  · intro w hSw
    go_simp
    try with_reducible rfl
  simp only [Act.put, List.getElem_toArray, List.getElem_cons_zero, List.getElem_cons_succ, List.setIfInBounds_toArray, List.set_cons_zero, List.set_cons_succ]
  refine wpAnyH_take (i := 7) (v := ?_) rfl (by kernel_rfl) (by kernel_rfl) (by kernel_rfl) (fun _ _ _ h => h) (Or.inl ⟨by rfl, ?_⟩) (by assumption) ?_
  rotate_left
  · intro w hSw
    go_simp
    try with_reducible rfl
  simp only [Act.put, List.getElem_toArray, List.getElem_cons_zero, List.getElem_cons_succ, List.setIfInBounds_toArray, List.set_cons_zero, List.set_cons_succ]
  clear c0 c1 c2 c3 c4 c5 c6 c7 c8
  refine wpAnyH_ready (rs := [8]) (by kernel_rfl) (by simp) ?_
  refine AllReadyH.cons rfl (fun K hK => ?_) AllReadyH.nil
  go_simp
  refine (gsees_r (HG.out.on (bthen B1.out hb0)).g o.node (some ⟨g, 0, none⟩) o.l.n cp o.l.T (lent_front (own_on O1.out hb0) (HOV.out.1.1.keep (bthen B1.out hb0))) (.inr ⟨_, rfl⟩) HN.out (by have h7 := HG.out.g.pB; have h8 := lt_of_blk HG.out.g.bx; have h9 := (bthen B1.out hb0).size; omega)).mono ?_
  rintro r w2 ⟨rfl, k2, H1, g2, s1, f1⟩
  rw [HZ.out] at s1 ⊢
  have K2 := aside k2
  have G2 := aside g2
  have S1 := aside s1
  have F1 := aside f1
  refine hK.out _ _ (SX.out _ ((Keeps.of_below hb0 _).trans k2)) (fun hHeld => ?_)
  clear hK K k2 g2 s1 f1
  try simp only [Act.put, List.getElem_toArray, List.getElem_cons_zero, List.getElem_cons_succ, List.setIfInBounds_toArray, List.set_cons_zero, List.set_cons_succ]
  refine wpAnyH_take (i := 9) (v := ?_) rfl (by kernel_rfl) (by kernel_rfl) (by kernel_rfl) (fun _ _ _ h => h) (Or.inl ⟨by rfl, ?_⟩) (by assumption) ?_
  rotate_left
  · intro w hSw
    go_simp
    try with_reducible rfl
  simp only [Act.put, List.getElem_toArray, List.getElem_cons_zero, List.getElem_cons_succ, List.setIfInBounds_toArray, List.set_cons_zero, List.set_cons_succ]
  refine wpAnyH_take (i := 10) (v := ?_) rfl (by kernel_rfl) (by kernel_rfl) (by kernel_rfl) (fun _ _ _ h => h) (Or.inl ⟨by rfl, ?_⟩) (by assumption) ?_
  rotate_left
  · intro w hSw
    go_simp
    try with_reducible rfl
  simp only [Act.put, List.getElem_toArray, List.getElem_cons_zero, List.getElem_cons_succ, List.setIfInBounds_toArray, List.set_cons_zero, List.set_cons_succ]
  refine wpAnyH_take (i := 11) (v := ?_) rfl (by kernel_rfl) (by kernel_rfl) (by kernel_rfl) (fun _ _ _ h => h) (Or.inl ⟨by rfl, ?_⟩) (by assumption) ?_
  rotate_left
  · intro w hSw
    go_simp
    try with_reducible rfl
  simp only [Act.put, List.getElem_toArray, List.getElem_cons_zero, List.getElem_cons_succ, List.setIfInBounds_toArray, List.set_cons_zero, List.set_cons_succ]
  refine wpAnyH_take (i := 12) (v := ?_) rfl (by kernel_rfl) (by kernel_rfl) (by kernel_rfl) (fun _ _ _ h => h) (Or.inl ⟨by rfl, ?_⟩) (by assumption) ?_
  rotate_left
  · intro w hSw
    go_simp
    try with_reducible rfl
  simp only [Act.put, List.getElem_toArray, List.getElem_cons_zero, List.getElem_cons_succ, List.setIfInBounds_toArray, List.set_cons_zero, List.set_cons_succ]
  refine wpAnyH_take (i := 13) (v := ?_) rfl (by kernel_rfl) (by kernel_rfl) (by kernel_rfl) (fun _ _ _ h => h) (Or.inl ⟨by rfl, ?_⟩) (by assumption) ?_
  rotate_left
  · intro w hSw
    go_simp
    try with_reducible rfl
  simp only [Act.put, List.getElem_toArray, List.getElem_cons_zero, List.getElem_cons_succ, List.setIfInBounds_toArray, List.set_cons_zero, List.set_cons_succ]
  refine wpAnyH_done (by kernel_rfl) ?_ _
  obtain ⟨d0, d1, d2, d3, d4, d5, d6, d7, d8⟩ := hHeld
  clear SX
  have BV := aside (bthen B1.out hb0)
  have G1 := aside (HG.out.on BV.out)
  have W2 := aside ((bthen HW0.out (bthen BB.out BV.out)).trans (K2.out.below (bthen HW0.out (bthen BB.out BV.out)).size (fun j hj e => by have h7 := HG.out.g.pB; have h8 := HWB.out; omega)))
  have O2 := aside (ownsRow_keep (own_on O1.out hb0) K2.out (fun j hj e => by
    have h7 := (row_blkM O1.out hj).1
    have h8 := lt_of_blk HG.out.g.bx
    omega))
  have CR := aside (rhsees_r (G1.out.rp K2.out) HG.out.oneW o.node o.l.a o.l.n o.l.c o.l.T (HW.out.keep W2.out).1.1 (HW.out.keep W2.out).1.2 HN.out)
  rw [← HEQ.out, HZ.out] at CR
  go_wp2_with fail
  refine CR.out.mono ?_
  rintro r w3 ⟨rfl, k3, HR1, r3, s2, f2⟩
  have K3 := aside k3
  have R3 := aside r3
  have S2 := aside s2
  have F2 := aside f2
  have KB3 := aside (blk_keep (blk_keep (blk_on KB.out BV.out) K2.out (fun h9 => HG.out.nob KB.out (.inl h9))) k3 (fun h9 => HG.out.nob KB.out (.inr (.inr (.inl h9)))))
  obtain ⟨e0, e1, e2, e3, e4, e5, e6, e7, e8⟩ := nine KB3.out
  have W3 := aside (W2.out.trans (k3.below W2.out.size (fun j hj e => by have h7 := HG.out.r.qB; have h8 := HWB.out; omega)))
  have O3 := aside (ownsRow_keep O2.out k3 (fun j hj e => by
    have h7 := (row_blkM O1.out hj).1
    have h8 := lt_of_blk HG.out.r.bx
    omega))
  have CST := aside (still19_any V.heap.size g o.l.n cp o.l.a o.l.c o.l.T w3 O3.out (HW.out.keep W3.out).1.1 HN.out)
  clear d0 d1 d2 d3 d4 d5 d6 d7 d8 k3 r3 s2 f2 CR
  have hS : (z.1.toList == z.1.toList) = true := by simp
  have hS2 : (z.2 == z.2) = true := by simp
  go_wp2_with fail
  refine CST.out.mono ?_
  rintro r w4 ⟨rfl, k4⟩
  have HGG := aside (show V.heap.size ≤ g ∧ g < w1.heap.size from by
    obtain ⟨h7, cs, h8⟩ := row_blkM O1.out (r := g) rfl
    exact ⟨h7, lt_of_blk h8⟩)
  have FIN := aside (HG.out.sees BB.out HGG.out.1 BV.out HGG.out.2 K2.out G2.out S1.out F1.out K3.out R3.out S2.out F2.out k4)
  clear k4 e0 e1 e2 e3 e4 e5 e6 e7 e8
  go_wp2
  go_ret
  exact ⟨rfl, FIN.out⟩
end Go.Proofs.Ytfkdhambbpkmpaa

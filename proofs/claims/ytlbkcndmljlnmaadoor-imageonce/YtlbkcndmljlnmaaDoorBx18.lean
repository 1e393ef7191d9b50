/-
  write, Put and Delete.
  Put, Delete and Take.
  New: a store that holds nothing.
  A store, as a law meets it: by the entries that it holds.
  Best, the code's and the document's own, by contracts; the plain laws of the better of two.
  A list of entries in memory.
-/
import Derived.Test.YtlbkcndmljlnmaaDoorBx17
import Derived.Test.YtlbkcndmljlnmaaDoorBx16
import Derived.Test.YtlbkcndmljlnmaaDoorBx1
namespace Go.Proofs.YtlbkcndmljlnmaaDoor
open Go.RowKit
set_option linter.unusedVariables false
/-- What write answers: its error, or none. -/
def wrErr (k v : ByteArray) (nd ck : Int) (Ls : List En) : Int :=
  if (16 : Int) < k.size then 20 else if (32 : Int) < v.size then 31 else if roomB k Ls = false then 80 else (Vs.nx ck nd).2.2
/-- The entry that is written. -/
def wrEn (k v : ByteArray) (d : Bool) (nd ck : Int) : En := ⟨k, ck + 1, nd, v, d⟩
theorem ver_end {w X : World} {sb g tb i : Nat} {nd ck : Int} {T : Tr En Tl} {n : Nat} {x y : Value} (h : IsSt X sb g tb nd ck T n) (k : Keeps (Of sb g tb) w X) (hb : X.heap[w.heap.size + i]? = some (.cells #[x, y] 42 (0, 0))) (c m : Int) :
    IsSt ((X.setCell ⟨w.heap.size + i, 0, none⟩ (.int .i64 c)).setCell ⟨w.heap.size + i, 1, none⟩ (.int .i64 m)) sb g tb nd ck T n ∧ Keeps (Of sb g tb) w ((X.setCell ⟨w.heap.size + i, 0, none⟩ (.int .i64 c)).setCell ⟨w.heap.size + i, 1, none⟩ (.int .i64 m)) := by
  have hn := h.not hb (by decide) (by decide) (by decide)
  obtain ⟨p, ht, hT⟩ := h.tree
  have h1 := heap_setCell_same X (w.heap.size + i) 0 _ _ (.int .i64 c) hb
  refine ⟨⟨?_, (h.cnt.setCell (p := ⟨w.heap.size + i, 0, none⟩) _ (fun e => hn (.inr (.inr (Option.some.inj e).symm)))).setCell (p := ⟨w.heap.size + i, 1, none⟩) _ (fun e => hn (.inr (.inr (Option.some.inj e).symm))), ⟨p, ?_, hT.on (((Stay.refl _ X).setCell _ (fun cs e => by dsimp only at e; rw [hb] at e; simp at e)).setCell _ (fun cs e => by dsimp only at e; rw [h1] at e; simp at e))⟩⟩, (k.setCell (p := ⟨w.heap.size + i, 0, none⟩) (fun e => by dsimp only at e; omega) _).setCell (p := ⟨w.heap.size + i, 1, none⟩) (fun e => by dsimp only at e; omega) _⟩
  · rw [heap_setCell_other _ _ _ _ (fun e => hn (.inl e.symm)), heap_setCell_other _ _ _ _ (fun e => hn (.inl e.symm))]; exact h.blk
  · unfold TObjE; rw [heap_setCell_other _ _ _ _ (fun e => hn (.inr (.inl e.symm))), heap_setCell_other _ _ _ _ (fun e => hn (.inr (.inl e.symm)))]; exact ht
theorem ver_lay {w X : World} {sb g tb vb : Nat} {nd ck : Int} {T : Tr En Tl} {n : Nat} {x y : Value} {cs : Array Value} {z u : Value} (h : IsSt X sb g tb nd ck T n) (b : Below w.heap.size w X) (L : Lanes X) (g0 : X.heap[w.heap.size]? = some (.cells cs 44 (0, 0))) (g1 : X.heap[w.heap.size + 1]? = some (.cells #[z, u] 42 (0, 0))) (gv : X.heap[vb]? = some (.cells #[x, y] 42 (0, 0))) (hv : w.heap.size + 2 ≤ vb) (c m : Int) :
    (fun Y : World => IsSt Y sb g tb nd ck T n ∧ Below w.heap.size w Y ∧ Lanes Y ∧ Y.heap[w.heap.size]? = some (.cells cs 44 (0, 0)) ∧ Y.heap[w.heap.size + 1]? = some (.cells #[z, u] 42 (0, 0)) ∧ Y.heap[vb]? = some (.cells #[.int .i64 c, .int .i64 m] 42 (0, 0))) ((X.setCell ⟨vb, 0, none⟩ (.int .i64 c)).setCell ⟨vb, 1, none⟩ (.int .i64 m)) := by
  have h1 := heap_setCell_same X vb 0 _ _ (.int .i64 c) gv
  have h2 := heap_setCell_same _ vb 1 _ _ (.int .i64 m) h1
  have ob : ∀ k, k ≠ vb → ((X.setCell ⟨vb, 0, none⟩ (.int .i64 c)).setCell ⟨vb, 1, none⟩ (.int .i64 m)).heap[k]? = X.heap[k]? := fun k hk => by rw [heap_setCell_other _ _ _ _ hk, heap_setCell_other _ _ _ _ hk]
  have hn := h.not gv (by decide) (by decide) (by decide)
  have kk : Keeps (fun x => x = vb) X ((X.setCell ⟨vb, 0, none⟩ (.int .i64 c)).setCell ⟨vb, 1, none⟩ (.int .i64 m)) := ((Keeps.refl (fun x => x = vb) X).setCell (p := ⟨vb, 0, none⟩) (fun _ => rfl) _).setCell (p := ⟨vb, 1, none⟩) (fun _ => rfl) _
  obtain ⟨p, ht, hT⟩ := h.tree
  refine ⟨⟨(ob _ (fun e => hn (.inl e.symm))).trans h.blk, fun b' e => (ob _ (fun e2 => hn (.inr (.inr (by cases e; exact e2.symm))))).trans (h.cnt b' e), ⟨p, (ob _ (fun e => hn (.inr (.inl e.symm)))).trans ht, hT.on ((Stay.refl _ X).keeps kk (fun i cs' hi e => by subst e; rw [gv] at hi; simp at hi))⟩⟩, ?_, L.keeps kk (fun e => ?_), (ob _ (by omega)).trans g0, (ob _ (by omega)).trans g1, h2⟩
  · exact (b.setCell (p := ⟨vb, 0, none⟩) (by dsimp only; omega) _).setCell (p := ⟨vb, 1, none⟩) (by dsimp only; omega) _
  · have h3 := L.c5
    rw [show World.cell? X ⟨0, 5, none⟩ = none from by rw [← e] at gv; simp [World.cell?, gv]] at h3
    cases h3
/-- The version laid into the entry. -/
theorem wr_box {w X : World} {sb g tb vb : Nat} {ck : Int} {T : Tr En Tl} {n : Nat} {k v : ByteArray} {d : Bool} {a0 a1 : Int} {z u : Value} {c m : Int} {nd' : Int} (h : IsSt X sb g tb nd' ck T n) (b : Below w.heap.size w X) (L : Lanes X) (g0 : X.heap[w.heap.size]? = some (.cells #[.string k, .int .i64 a0, .int .i64 a1, .string v, .bool d] 44 (0, 0))) (g1 : X.heap[w.heap.size + 1]? = some (.cells #[z, u] 42 (0, 0))) (gv : X.heap[vb]? = some (.cells #[.int .i64 c, .int .i64 m] 42 (0, 0))) (hv : w.heap.size + 2 ≤ vb) :
    (fun Y : World => IsSt Y sb g tb nd' ck T n ∧ Lanes Y ∧ Y.heap[w.heap.size + 1]? = some (.cells #[z, u] 42 (0, 0)) ∧ Y.heap[vb]? = some (.cells #[.int .i64 c, .int .i64 m] 42 (0, 0)) ∧ Below w.heap.size w Y ∧ Y.heap[w.heap.size]? = some (.cells #[.string k, .int .i64 c, .int .i64 m, .string v, .bool d] 44 (0, 0))) ((X.setCell ⟨w.heap.size, 1, none⟩ (.int .i64 c)).setCell ⟨w.heap.size, 2, none⟩ (.int .i64 m)) := by
  have h1 := heap_setCell_same X w.heap.size 1 _ _ (.int .i64 c) g0
  have h2 := heap_setCell_same _ w.heap.size 2 _ _ (.int .i64 m) h1
  have ob : ∀ k, k ≠ w.heap.size → ((X.setCell ⟨w.heap.size, 1, none⟩ (.int .i64 c)).setCell ⟨w.heap.size, 2, none⟩ (.int .i64 m)).heap[k]? = X.heap[k]? := fun k hk => by rw [heap_setCell_other _ _ _ _ hk, heap_setCell_other _ _ _ _ hk]
  have hn := h.not g0 (by decide) (by decide) (by decide)
  have kk : Keeps (fun x => x = w.heap.size) X ((X.setCell ⟨w.heap.size, 1, none⟩ (.int .i64 c)).setCell ⟨w.heap.size, 2, none⟩ (.int .i64 m)) := ((Keeps.refl (fun x => x = w.heap.size) X).setCell (p := ⟨w.heap.size, 1, none⟩) (fun _ => rfl) _).setCell (p := ⟨w.heap.size, 2, none⟩) (fun _ => rfl) _
  obtain ⟨p, ht, hT⟩ := h.tree
  refine ⟨⟨(ob _ (fun e => hn (.inl e.symm))).trans h.blk, fun b' e => (ob _ (fun e2 => hn (.inr (.inr (by cases e; exact e2.symm))))).trans (h.cnt b' e), ⟨p, (ob _ (fun e => hn (.inr (.inl e.symm)))).trans ht, hT.on ((Stay.refl _ X).keeps kk (fun i cs' hi e => by subst e; rw [g0] at hi; simp at hi))⟩⟩, L.keeps kk (fun e => ?_), (ob _ (by omega)).trans g1, (ob _ (by omega)).trans gv, ?_, h2⟩
  · have h3 := L.c5
    rw [show World.cell? X ⟨0, 5, none⟩ = none from by rw [← e] at g0; simp [World.cell?, g0]] at h3
    cases h3
  · exact (b.setCell (p := ⟨w.heap.size, 1, none⟩) (by dsimp only; omega) _).setCell (p := ⟨w.heap.size, 2, none⟩) (by dsimp only; omega) _
set_option maxHeartbeats 3200000 in
set_option maxRecDepth 100000 in
theorem write_go (k v : ByteArray) (d : Bool) {Ls : List En} {w : World} {sb g tb : Nat} {nd ck : Int} {T : Tr En Tl} {n : Nat} (H0 : IsSt ((w.alloc (.cells #[.string k, .int .i64 0, .int .i64 0, .string v, .bool d] 44)).alloc (.cells #[.int .i64 0, .int .i64 0] 42)) sb g tb nd ck T n) (L : Lanes ((w.alloc (.cells #[.string k, .int .i64 0, .int .i64 0, .string v, .bool d] 44)).alloc (.cells #[.int .i64 0, .int .i64 0] 42))) (hH : Hol T Ls) (hl : Ls.length ≤ 1000000) (B0 : Below w.heap.size w ((w.alloc (.cells #[.string k, .int .i64 0, .int .i64 0, .string v, .bool d] 44)).alloc (.cells #[.int .i64 0, .int .i64 0] 42)))
    (g0 : ((w.alloc (.cells #[.string k, .int .i64 0, .int .i64 0, .string v, .bool d] 44)).alloc (.cells #[.int .i64 0, .int .i64 0] 42)).heap[w.heap.size]? = some (.cells #[.string k, .int .i64 0, .int .i64 0, .string v, .bool d] 44 (0, 0))) (g1 : ((w.alloc (.cells #[.string k, .int .i64 0, .int .i64 0, .string v, .bool d] 44)).alloc (.cells #[.int .i64 0, .int .i64 0] 42)).heap[w.heap.size + 1]? = some (.cells #[.int .i64 0, .int .i64 0] 42 (0, 0))) (h1 : ¬ (16 : Int) < k.size) (h2 : ¬ (32 : Int) < v.size)
    (CR : Hid (∀ (W : World), IsSt W sb g tb nd ck T n → Calls Tryd.prog 52 #[.pointer (some ⟨sb, 0, none⟩), .string k] W fun r w' => r = .returned (.bool true) ∧ Below W.heap.size W w')) (HE : Hid (wrErr k v nd ck Ls = (Vs.nx ck nd).2.2))
    (q0 : ((w.alloc (.cells #[.string k, .int .i64 0, .int .i64 0, .string v, .bool d] 44)).alloc (.cells #[.int .i64 0, .int .i64 0] 42)).cell? ⟨w.heap.size, 0, none⟩ = some (.string k)) (q3 : ((w.alloc (.cells #[.string k, .int .i64 0, .int .i64 0, .string v, .bool d] 44)).alloc (.cells #[.int .i64 0, .int .i64 0] 42)).cell? ⟨w.heap.size, 3, none⟩ = some (.string v)) :
    Calls Tryd.prog 50 #[.pointer (some ⟨sb, 0, none⟩), .agg #[.string k, .int .i64 0, .int .i64 0, .string v, .bool d]] w fun r w' => ∃ c m er, r = .returned (.tuple #[.agg #[.int .i64 c, .int .i64 m], .int .i64 er]) ∧ er = wrErr k v nd ck Ls ∧ Keeps (Of sb g tb) w w' ∧
      ((er ≠ 0 ∧ c = 0 ∧ m = 0 ∧ IsSt w' sb g tb nd ck T n) ∨ (er = 0 ∧ c = ck + 1 ∧ m = nd ∧ IsSt w' sb g tb nd (ck + 1) (Tr.put k (wrEn k v d nd ck) (tof (wrEn k v d nd ck)) T) (n + Tr.putC k (wrEn k v d nd ck) (tof (wrEn k v d nd ck)) T))) := by
  have H := aside H0
  have B := aside B0
  have G0 := aside g0
  have G1 := aside g1
  have LL := aside L
  obtain ⟨c, m, er, hnx⟩ : ∃ c m er, Vs.nx ck nd = (c, m, er) := ⟨_, _, _, rfl⟩
  have CN := aside (fun (W : World) => next_at hnx W)
  rw [hnx] at HE
  have HN : Hid ((er ≠ 0 ∧ c = 0 ∧ m = 0) ∨ (er = 0 ∧ c = ck + 1 ∧ m = nd ∧ ck < 1099511627776)) := by
    rcases nx_cases ck nd with h | h | ⟨h, h4, h5, -⟩ <;> rw [hnx] at h <;> injection h with h5 h6 <;> injection h6 with h6 h7 <;> subst h5 h6 h7
    · exact .inl ⟨by decide, rfl, rfl⟩
    · exact .inl ⟨by decide, rfl, rfl⟩
    · exact .inr ⟨rfl, rfl, rfl, h5⟩
  have CH := aside (fun (W : World) (h : IsSt W sb g tb nd ck T n) (hL : Lanes W) => shold ⟨k, c, m, v, d⟩ h hL hH hl (by dsimp only; omega))
  dsimp only at CH
  clear H0 B0 g0 g1 L hH hl hnx
  go_enter Tryd.func50, Tryd.ntmps50
  go_wp2_with fail
  refine (CR.out _ H.out).mono ?_
  rintro e w1 ⟨rfl, b1⟩
  have H1 := aside (H.out.below b1)
  have B1 := aside (bthen B.out b1)
  have G01 := aside (blk_on G0.out b1)
  have G11 := aside (blk_on G1.out b1)
  have L1 := aside (LL.out.keep b1)
  clear b1 q0 q3 H G0 G1 B CR LL
  go_wp2_with fail
  refine wp_region_held_drew (S := fun X => X.cell? ⟨sb, 0, none⟩ = some (.int .i64 nd) ∧ X.cell? ⟨sb, 1, none⟩ = some (.int .i64 ck)) (by kernel_rfl) ⟨(quad H1.out.drew.blk).1, (quad H1.out.drew.blk).2.1⟩ (fun hHeld => ?_)
  refine wpAnyH_take (i := 0) (v := ?_) rfl (by kernel_rfl) (by kernel_rfl) (by kernel_rfl) (fun _ _ _ h => h) (Or.inl ⟨by rfl, ?_⟩) (by assumption) ?_
  rotate_left
  · intro w hSw
    go_simp
    try with_reducible rfl
  simp only [Act.put, List.getElem_toArray, List.getElem_cons_zero, List.setIfInBounds_toArray, List.set_cons_zero, List.set_cons_succ]
  refine wpAnyH_take (i := 1) (v := ?_) rfl (by kernel_rfl) (by kernel_rfl) (by kernel_rfl) (fun _ _ _ h => h) (Or.inl ⟨by rfl, ?_⟩) (by assumption) ?_
  rotate_left
  · intro w hSw
    go_simp
    try with_reducible rfl
  simp only [Act.put, List.getElem_toArray, List.getElem_cons_zero, List.getElem_cons_succ, List.setIfInBounds_toArray, List.set_cons_zero, List.set_cons_succ]
  refine wpAnyH_take (i := 2) (v := ?_) rfl (by kernel_rfl) (by kernel_rfl) (by kernel_rfl) (fun _ _ _ h => h) (Or.inl ⟨by rfl, ?_⟩) (by assumption) ?_
  rotate_left
  · intro w hSw
    go_simp
    try with_reducible rfl
  simp only [Act.put, List.getElem_toArray, List.getElem_cons_zero, List.getElem_cons_succ, List.setIfInBounds_toArray, List.set_cons_zero, List.set_cons_succ]
  refine wpAnyH_take (i := 3) (v := ?_) rfl (by kernel_rfl) (by kernel_rfl) (by kernel_rfl) (fun _ _ _ h => h) (Or.inl ⟨by rfl, ?_⟩) (by assumption) ?_
  rotate_left
  · intro w hSw
    go_simp
    try with_reducible rfl
  simp only [Act.put, List.getElem_toArray, List.getElem_cons_zero, List.getElem_cons_succ, List.setIfInBounds_toArray, List.set_cons_zero, List.set_cons_succ]
  refine wpAnyH_take (i := 4) (v := ?_) rfl (by kernel_rfl) (by kernel_rfl) (by kernel_rfl) (fun _ _ _ h => h) (Or.inl ⟨by rfl, ?_⟩) (by assumption) ?_
  rotate_left
  · intro w hSw
    go_simp
    try with_reducible rfl
  simp only [Act.put, List.getElem_toArray, List.getElem_cons_zero, List.getElem_cons_succ, List.setIfInBounds_toArray, List.set_cons_zero, List.set_cons_succ]
  refine wpAnyH_take (i := 5) (v := ?_) rfl (by kernel_rfl) (by kernel_rfl) (by kernel_rfl) (fun _ _ _ h => h) (Or.inl ⟨by rfl, ?_⟩) (by assumption) ?_
  rotate_left
  · intro w hSw
    go_simp
    try with_reducible rfl
  simp only [Act.put, List.getElem_toArray, List.getElem_cons_zero, List.getElem_cons_succ, List.setIfInBounds_toArray, List.set_cons_zero, List.set_cons_succ]
  refine wpAnyH_take (i := 6) (v := ?_) rfl (by kernel_rfl) (by kernel_rfl) (by kernel_rfl) (fun _ _ _ h => h) (Or.inl ⟨by rfl, ?_⟩) (by assumption) ?_
  rotate_left
  · intro w hSw
    go_simp
    try with_reducible rfl
  simp only [Act.put, List.getElem_toArray, List.getElem_cons_zero, List.getElem_cons_succ, List.setIfInBounds_toArray, List.set_cons_zero, List.set_cons_succ]
  refine wpAnyH_take (i := 7) (v := ?_) rfl (by kernel_rfl) (by kernel_rfl) (by kernel_rfl) (fun _ _ _ h => h) (Or.inl ⟨by rfl, ?_⟩) (by assumption) ?_
  rotate_left
  · intro w hSw
    go_simp
    try with_reducible rfl
  simp only [Act.put, List.getElem_toArray, List.getElem_cons_zero, List.getElem_cons_succ, List.setIfInBounds_toArray, List.set_cons_zero, List.set_cons_succ]
  refine wpAnyH_ready (rs := [8, 12]) (by kernel_rfl) (by simp) ?_
  refine AllReadyH.cons rfl (fun K hK => ?_) (AllReadyH.cons rfl (fun K hK => ?_) AllReadyH.nil)
  · go_simp
    refine (CN.out _).mono ?_
    rintro e w9 ⟨rfl, bb⟩
    have HX := aside (H1.out.drew.below bb)
    refine hK.out _ _ (⟨(quad HX.out.blk).1, (quad HX.out.blk).2.1⟩) (fun hHeld => ?_)
    clear hK K
    have H2 := aside (HX.out.alloc (.cells #[.int .i64 c, .int .i64 m] 42))
    have B2 := aside (bthen (bthen B1.out.drew bb) (bnew _ (.cells #[.int .i64 c, .int .i64 m] 42)))
    have G02 := aside (blk_on (blk_on (show w1.drew.heap[w.heap.size]? = some _ from G01.out) bb) (bnew _ (.cells #[.int .i64 c, .int .i64 m] 42)))
    have G12 := aside (blk_on (blk_on (show w1.drew.heap[w.heap.size + 1]? = some _ from G11.out) bb) (bnew _ (.cells #[.int .i64 c, .int .i64 m] 42)))
    have L2 := aside ((L1.out.drew.keep bb).keep (bnew _ (.cells #[.int .i64 c, .int .i64 m] 42)))
    have GV := aside (heap_alloc_new w9 (.cells #[.int .i64 c, .int .i64 m] 42))
    have HV := aside (show w.heap.size + 2 ≤ w9.heap.size from by have := lt_of_blk (blk_on (show w1.drew.heap[w.heap.size + 1]? = some _ from G11.out) bb); omega)
    clear bb
    refine wpAnyH_take (i := 9) (v := ?_) rfl (by kernel_rfl) (by kernel_rfl) (by kernel_rfl) (fun _ _ _ h => h) (Or.inl ⟨by rfl, ?_⟩) (by assumption) ?_
    rotate_left
    · intro w hSw
      go_simp
      try with_reducible rfl
    simp only [Act.put, List.getElem_toArray, List.getElem_cons_zero, List.getElem_cons_succ, List.setIfInBounds_toArray, List.set_cons_zero, List.set_cons_succ]
    refine wpAnyH_take (i := 10) (v := ?_) rfl (by kernel_rfl) (by kernel_rfl) (by kernel_rfl) (fun _ _ _ h => h) (Or.inl ⟨by rfl, ?_⟩) (by assumption) ?_
    rotate_left
    · intro w hSw
      go_simp
      try with_reducible rfl
    simp only [Act.put, List.getElem_toArray, List.getElem_cons_zero, List.getElem_cons_succ, List.setIfInBounds_toArray, List.set_cons_zero, List.set_cons_succ]
    refine wpAnyH_take (i := 11) (v := ?_) rfl (by kernel_rfl) (by kernel_rfl) (by kernel_rfl) (fun _ _ _ h => h) (Or.inl ⟨by rfl, ?_⟩) (by assumption) ?_
    rotate_left
    · intro w hSw
      go_simp
      try with_reducible rfl
    simp only [Act.put, List.getElem_toArray, List.getElem_cons_zero, List.getElem_cons_succ, List.setIfInBounds_toArray, List.set_cons_zero, List.set_cons_succ]
    refine wpAnyH_ready (rs := [12]) (by kernel_rfl) (by simp) ?_
    refine AllReadyH.cons rfl (fun K hK => ?_) AllReadyH.nil
    go_simp
    refine hK.out _ _ (⟨(quad (HX.out.alloc _).blk).1, (quad (HX.out.alloc _).blk).2.1⟩) (fun hHeld => ?_)
    clear hK K 
    refine wpAnyH_ready (rs := [13]) (by kernel_rfl) (by simp) ?_
    refine AllReadyH.cons rfl (fun K hK => ?_) AllReadyH.nil
    go_simp
    refine hK.out _ _ (⟨(quad (HX.out.alloc _).blk).1, (quad (HX.out.alloc _).blk).2.1⟩) (fun hHeld => ?_)
    clear hK K 
    refine wpAnyH_take (i := 14) (v := ?_) rfl (by kernel_rfl) (by kernel_rfl) (by kernel_rfl) (fun _ _ _ h => h) (Or.inl ⟨by rfl, ?_⟩) (by assumption) ?_
    rotate_left
    · intro w hSw
      go_simp
      try with_reducible rfl
    simp only [Act.put, List.getElem_toArray, List.getElem_cons_zero, List.getElem_cons_succ, List.setIfInBounds_toArray, List.set_cons_zero, List.set_cons_succ]
    refine wpAnyH_done (by kernel_rfl) ?_ _
    clear hHeld HX H1 B1 G01 G11 L1 CN
    generalize w9.alloc (.cells #[.int .i64 c, .int .i64 m] 42) = X at *
    generalize w9.heap.size = vb at *
    rcases HN.out with ⟨he, rfl, rfl⟩ | ⟨rfl, rfl, rfl, hck⟩
    · have he' : (er == 0) = false := beq_eq_false_iff_ne.2 he
      have HEr := aside he
      clear he
      obtain ⟨s0, s1, z0, z1⟩ := pair G12.out
      have E := aside (ver_end (i := 1) H2.out (Keeps.of_below B2.out _) G12.out 0 0)
      go_wp2
      refine bodyPost_ret (v := .tuple #[.agg #[.int .i64 0, .int .i64 0], .int .i64 er]) (by simp [results, Tryd.results50, go_sem, s0, s1]) rfl ⟨0, 0, er, rfl, HE.out.symm, E.out.2, .inl ⟨HEr.out, rfl, rfl, E.out.1⟩⟩
    · clear hck
      obtain ⟨v0, v1, -, -⟩ := pair GV.out
      obtain ⟨q0, q1, q2, q3, q4, y0, y1, y2, y3, y4⟩ := penta G02.out
      have WB := aside (wr_box H2.out B2.out L2.out G02.out G12.out GV.out HV.out)
      go_wp2_with fail
      obtain ⟨H3, L3, G13, GV3, K3, q3'⟩ := WB.out
      refine (CH.out _ H3 L3).mono ?_
      rintro r w4 ⟨rfl, h4, k4⟩
      have ec : ckm ck (ck + 1) = ck + 1 := by unfold ckm; rw [if_pos (by omega)]
      rw [ec] at h4
      have G14 := aside (blk_keep G13 k4 (H3.not G13 (by decide) (by decide) (by decide)))
      have GV4 := aside (blk_keep GV3 k4 (H3.not GV3 (by decide) (by decide) (by decide)))
      have E := aside (ver_end (i := 1) h4 ((Keeps.of_below K3 _).trans k4) G14.out (ck + 1) m)
      clear h4 k4 H3 L3 G13 GV3 K3 q3' WB CH q0 q1 q2 q3 q4 y0 y1 y2 y3 y4 v0 v1 ec
      obtain ⟨v0, v1, -, -⟩ := pair GV4.out
      obtain ⟨s0, s1, z0, z1⟩ := pair G14.out
      go_wp2
      refine bodyPost_ret (v := .tuple #[.agg #[.int .i64 (ck + 1), .int .i64 m], .int .i64 0]) (by simp [results, Tryd.results50, go_sem, s0, s1]) rfl ⟨ck + 1, m, 0, rfl, HE.out.symm, E.out.2, .inr ⟨rfl, rfl, rfl, E.out.1⟩⟩
  · go_simp
    refine hK.out _ _ (⟨(quad (H1.out.alloc _).drew.blk).1, (quad (H1.out.alloc _).drew.blk).2.1⟩) (fun hHeld => ?_)
    clear hK K
    have HX := aside (H1.out.alloc (.cells #[.int .i64 0, .int .i64 0] 42)).drew
    have GX := aside (show (w1.alloc (.cells #[.int .i64 0, .int .i64 0] 42)).drew.heap[w1.heap.size]? = some (.cells #[.int .i64 0, .int .i64 0] 42 (0, 0)) from heap_alloc_new w1 _)
    have BX := aside (bthen B1.out (bnew _ (.cells #[.int .i64 0, .int .i64 0] 42))).drew
    have G0X := aside (show (w1.alloc (.cells #[.int .i64 0, .int .i64 0] 42)).drew.heap[w.heap.size]? = some _ from blk_on G01.out (bnew _ _).drew)
    have G1X := aside (show (w1.alloc (.cells #[.int .i64 0, .int .i64 0] 42)).drew.heap[w.heap.size + 1]? = some _ from blk_on G11.out (bnew _ _).drew)
    have LX := aside (L1.out.keep (bnew _ (.cells #[.int .i64 0, .int .i64 0] 42))).drew
    have HV := aside (show w.heap.size + 2 ≤ w1.heap.size from by have := lt_of_blk G11.out; omega)
    clear H1 B1 G01 G11 L1
    generalize w1.heap.size = vb at *
    refine wpAnyH_ready (rs := [8]) (by kernel_rfl) (by simp) ?_
    refine AllReadyH.cons rfl (fun K hK => ?_) AllReadyH.nil
    go_simp
    refine (CN.out _).mono ?_
    rintro e w9 ⟨rfl, bb⟩
    refine hK.out _ _ (⟨(quad (HX.out.below bb).blk).1, (quad (HX.out.below bb).blk).2.1⟩) (fun hHeld => ?_)
    clear hK K 
    have HY := aside (HX.out.below bb)
    have GY := aside (blk_on GX.out bb)
    have BY := aside (BX.out.trans (bb.mono BX.out.size))
    have G0Y := aside (blk_on G0X.out bb)
    have G1Y := aside (blk_on G1X.out bb)
    have LY := aside (LX.out.keep bb)
    clear bb
    refine wpAnyH_take (i := 9) (v := ?_) rfl (by kernel_rfl) (by kernel_rfl) (by kernel_rfl) (fun _ _ _ h => h) (Or.inl ⟨by rfl, ?_⟩) (by assumption) ?_
    rotate_left
    · intro w hSw
      go_simp
      try with_reducible rfl
    simp only [Act.put, List.getElem_toArray, List.getElem_cons_zero, List.getElem_cons_succ, List.setIfInBounds_toArray, List.set_cons_zero, List.set_cons_succ]
    refine wpAnyH_take (i := 10) (v := ?_) rfl (by kernel_rfl) (by kernel_rfl) (by kernel_rfl) (fun _ _ _ h => h) (Or.inl ⟨by rfl, ?_⟩) (by assumption) ?_
    rotate_left
    · intro w hSw
      go_simp
      try with_reducible rfl
    simp only [Act.put, List.getElem_toArray, List.getElem_cons_zero, List.getElem_cons_succ, List.setIfInBounds_toArray, List.set_cons_zero, List.set_cons_succ]
    refine wpAnyH_take (i := 11) (v := ?_) rfl (by kernel_rfl) (by kernel_rfl) (by kernel_rfl) (fun _ _ _ h => h) (Or.inl ⟨by rfl, ?_⟩) (by assumption) ?_
    rotate_left
    · intro w hSw
      go_simp
      try with_reducible rfl
    simp only [Act.put, List.getElem_toArray, List.getElem_cons_zero, List.getElem_cons_succ, List.setIfInBounds_toArray, List.set_cons_zero, List.set_cons_succ]
    obtain ⟨u0, u1, o0, o1⟩ := pair GY.out
    have E9 := aside (ver_lay HY.out BY.out LY.out G0Y.out G1Y.out GY.out HV.out c m)
    refine wpAnyH_ready (rs := [13]) (by kernel_rfl) (by simp) ?_
    refine AllReadyH.cons rfl (fun K hK => ?_) AllReadyH.nil
    go_simp
    refine hK.out _ _ (⟨(quad E9.out.1.blk).1, (quad E9.out.1.blk).2.1⟩) (fun hHeld => ?_)
    clear hK K 
    refine wpAnyH_take (i := 14) (v := ?_) rfl (by kernel_rfl) (by kernel_rfl) (by kernel_rfl) (fun _ _ _ h => h) (Or.inl ⟨by rfl, ?_⟩) (by assumption) ?_
    rotate_left
    · intro w hSw
      go_simp
      try with_reducible rfl
    simp only [Act.put, List.getElem_toArray, List.getElem_cons_zero, List.getElem_cons_succ, List.setIfInBounds_toArray, List.set_cons_zero, List.set_cons_succ]
    refine wpAnyH_done (by kernel_rfl) ?_ _
    clear hHeld u0 u1 o0 o1 HX GX BX G0X G1X LX HY GY BY G0Y G1Y LY CN
    generalize (w9.setCell ⟨vb, 0, none⟩ (.int .i64 c)).setCell ⟨vb, 1, none⟩ (.int .i64 m) = X at *
    obtain ⟨H2', B2', L2', G02', G12', GV'⟩ := E9.out
    have H2 := aside H2'
    have B2 := aside B2'
    have L2 := aside L2'
    have G02 := aside G02'
    have G12 := aside G12'
    have GV := aside GV'
    clear H2' B2' L2' G02' G12' GV' E9
    rcases HN.out with ⟨he, rfl, rfl⟩ | ⟨rfl, rfl, rfl, hck⟩
    · have he' : (er == 0) = false := beq_eq_false_iff_ne.2 he
      have HEr := aside he
      clear he
      obtain ⟨s0, s1, z0, z1⟩ := pair G12.out
      have E := aside (ver_end (i := 1) H2.out (Keeps.of_below B2.out _) G12.out 0 0)
      go_wp2
      refine bodyPost_ret (v := .tuple #[.agg #[.int .i64 0, .int .i64 0], .int .i64 er]) (by simp [results, Tryd.results50, go_sem, s0, s1]) rfl ⟨0, 0, er, rfl, HE.out.symm, E.out.2, .inl ⟨HEr.out, rfl, rfl, E.out.1⟩⟩
    · clear hck
      obtain ⟨v0, v1, -, -⟩ := pair GV.out
      obtain ⟨q0, q1, q2, q3, q4, y0, y1, y2, y3, y4⟩ := penta G02.out
      have WB := aside (wr_box H2.out B2.out L2.out G02.out G12.out GV.out HV.out)
      go_wp2_with fail
      obtain ⟨H3, L3, G13, GV3, K3, q3'⟩ := WB.out
      refine (CH.out _ H3 L3).mono ?_
      rintro r w4 ⟨rfl, h4, k4⟩
      have ec : ckm ck (ck + 1) = ck + 1 := by unfold ckm; rw [if_pos (by omega)]
      rw [ec] at h4
      have G14 := aside (blk_keep G13 k4 (H3.not G13 (by decide) (by decide) (by decide)))
      have GV4 := aside (blk_keep GV3 k4 (H3.not GV3 (by decide) (by decide) (by decide)))
      have E := aside (ver_end (i := 1) h4 ((Keeps.of_below K3 _).trans k4) G14.out (ck + 1) m)
      clear h4 k4 H3 L3 G13 GV3 K3 q3' WB CH q0 q1 q2 q3 q4 y0 y1 y2 y3 y4 v0 v1 ec
      obtain ⟨v0, v1, -, -⟩ := pair GV4.out
      obtain ⟨s0, s1, z0, z1⟩ := pair G14.out
      go_wp2
      refine bodyPost_ret (v := .tuple #[.agg #[.int .i64 (ck + 1), .int .i64 m], .int .i64 0]) (by simp [results, Tryd.results50, go_sem, s0, s1]) rfl ⟨ck + 1, m, 0, rfl, HE.out.symm, E.out.2, .inr ⟨rfl, rfl, rfl, E.out.1⟩⟩
set_option maxHeartbeats 3200000 in
set_option maxRecDepth 100000 in
theorem swrite (k v : ByteArray) (d : Bool) {Ls : List En} {w : World} {sb g tb : Nat} {nd ck : Int} {T : Tr En Tl} {n : Nat} (h : IsSt w sb g tb nd ck T n) (L : Lanes w) (hH : Hol T Ls) (hl : Ls.length ≤ 1000000) :
    Calls Tryd.prog 50 #[.pointer (some ⟨sb, 0, none⟩), .agg #[.string k, .int .i64 0, .int .i64 0, .string v, .bool d]] w fun r w' => ∃ c m er, r = .returned (.tuple #[.agg #[.int .i64 c, .int .i64 m], .int .i64 er]) ∧ er = wrErr k v nd ck Ls ∧ Keeps (Of sb g tb) w w' ∧
      ((er ≠ 0 ∧ c = 0 ∧ m = 0 ∧ IsSt w' sb g tb nd ck T n) ∨ (er = 0 ∧ c = ck + 1 ∧ m = nd ∧ IsSt w' sb g tb nd (ck + 1) (Tr.put k (wrEn k v d nd ck) (tof (wrEn k v d nd ck)) T) (n + Tr.putC k (wrEn k v d nd ck) (tof (wrEn k v d nd ck)) T))) := by
  have b0 := bnew w (.cells #[.string k, .int .i64 0, .int .i64 0, .string v, .bool d] 44)
  have b1 := bnew (w.alloc (.cells #[.string k, .int .i64 0, .int .i64 0, .string v, .bool d] 44)) (.cells #[.int .i64 0, .int .i64 0] 42)
  have B := aside (bthen b0 b1)
  have G0 := aside (blk_on (heap_alloc_new w (.cells #[.string k, .int .i64 0, .int .i64 0, .string v, .bool d] 44)) b1)
  have g1 := heap_alloc_new (w.alloc (.cells #[.string k, .int .i64 0, .int .i64 0, .string v, .bool d] 44)) (.cells #[.int .i64 0, .int .i64 0] 42)
  simp only [World.size_alloc] at g1
  have G1 := aside g1
  have H := aside (h.below B.out)
  obtain ⟨q0, q1, q2, q3, q4, y0, y1, y2, y3, y4⟩ := penta G0.out
  obtain ⟨r0, r1, x0, x1⟩ := pair G1.out
  by_cases h1 : (16 : Int) < k.size
  · have HE := aside (show wrErr k v nd ck Ls = 20 from by unfold wrErr; rw [if_pos h1])
    clear h L hH hl b0 b1 g1 q1 q2 q3 q4 y0 y1 y2 y3 y4
    go_enter Tryd.func50, Tryd.ntmps50
    go_wp2
    refine bodyPost_ret (v := .tuple #[.agg #[.int .i64 0, .int .i64 0], .int .i64 20]) (by simp [results, Tryd.results50, go_sem]) rfl ⟨0, 0, 20, rfl, HE.out.symm, Keeps.of_below B.out _, .inl ⟨by decide, rfl, rfl, H.out⟩⟩
  · by_cases h2 : (32 : Int) < v.size
    · have HE := aside (show wrErr k v nd ck Ls = 31 from by unfold wrErr; rw [if_neg h1, if_pos h2])
      clear h L hH hl b0 b1 g1 q1 q2 q4 y0 y1 y2 y3 y4
      go_enter Tryd.func50, Tryd.ntmps50
      go_wp2
      refine bodyPost_ret (v := .tuple #[.agg #[.int .i64 0, .int .i64 0], .int .i64 31]) (by simp [results, Tryd.results50, go_sem]) rfl ⟨0, 0, 31, rfl, HE.out.symm, Keeps.of_below B.out _, .inl ⟨by decide, rfl, rfl, H.out⟩⟩
    · have CR := aside (fun (W : World) (h : IsSt W sb g tb nd ck T n) => sroom k h hH hl)
      cases h3 : roomB k Ls
      · have HE := aside (show wrErr k v nd ck Ls = 80 from by unfold wrErr; rw [if_neg h1, if_neg h2, if_pos h3])
        rw [h3] at CR
        clear h L hH hl b0 b1 g1 h3 y0 y1 y2 y3 y4
        go_enter Tryd.func50, Tryd.ntmps50
        go_wp2_with fail
        refine (CR.out _ H.out).mono ?_
        rintro e w1 ⟨rfl, b1⟩
        have H1 := aside (H.out.below b1)
        have B1 := aside (bthen B.out b1)
        have G1' := aside (blk_on G1.out b1)
        obtain ⟨s0, s1, z0, z1⟩ := pair G1'.out
        have E := aside (ver_end H1.out (Keeps.of_below B1.out (Of sb g tb)) G1'.out 0 0)
        clear b1 q0 q1 q2 q3 q4 r0 r1 x0 x1 H G0 G1 B
        go_wp2
        refine bodyPost_ret (v := .tuple #[.agg #[.int .i64 0, .int .i64 0], .int .i64 80]) (by simp [results, Tryd.results50, go_sem, s0, s1]) rfl ⟨0, 0, 80, rfl, HE.out.symm, E.out.2, .inl ⟨by decide, rfl, rfl, E.out.1⟩⟩
      · have HE := aside (show wrErr k v nd ck Ls = (Vs.nx ck nd).2.2 from by unfold wrErr; rw [if_neg h1, if_neg h2, if_neg (by rw [h3]; decide)])
        rw [h3] at CR
        exact write_go k v d H.out (L.keep B.out) hH hl B.out G0.out G1.out h1 h2 CR HE q0 q3
end Go.Proofs.YtlbkcndmljlnmaaDoor
namespace Go.Proofs.YtlbkcndmljlnmaaDoor
open Go.RowKit
set_option linter.unusedVariables false
set_option maxHeartbeats 3200000 in
set_option maxRecDepth 100000 in
theorem sput (k v : ByteArray) {Ls : List En} {w : World} {sb g tb : Nat} {nd ck : Int} {T : Tr En Tl} {n : Nat} (h : IsSt w sb g tb nd ck T n) (L : Lanes w) (hH : Hol T Ls) (hl : Ls.length ≤ 1000000) :
    Calls Tryd.prog 18 #[.pointer (some ⟨sb, 0, none⟩), .string k, .string v] w fun r w' => ∃ c m er, r = .returned (.tuple #[.agg #[.int .i64 c, .int .i64 m], .int .i64 er]) ∧ er = wrErr k v nd ck Ls ∧ Keeps (Of sb g tb) w w' ∧
      ((er ≠ 0 ∧ c = 0 ∧ m = 0 ∧ IsSt w' sb g tb nd ck T n) ∨ (er = 0 ∧ c = ck + 1 ∧ m = nd ∧ IsSt w' sb g tb nd (ck + 1) (Tr.put k (wrEn k v false nd ck) (tof (wrEn k v false nd ck)) T) (n + Tr.putC k (wrEn k v false nd ck) (tof (wrEn k v false nd ck)) T))) := by
  have B0 := aside (bnew w (.cells #[.int .i64 0, .int .i64 0] 42))
  have G0 := aside (heap_alloc_new w (.cells #[.int .i64 0, .int .i64 0] 42))
  have H := aside (h.alloc (.cells #[.int .i64 0, .int .i64 0] 42))
  have C := aside (swrite k v false H.out (L.keep B0.out) hH hl)
  clear h L hH hl
  go_enter Tryd.func18, Tryd.ntmps18
  go_wp2_with fail
  refine C.out.mono ?_
  rintro r w1 ⟨c, m, er, rfl, he, k1, hs⟩
  have HE := aside he
  have HS := aside hs
  have K1 := aside ((Keeps.of_below B0.out _).trans k1)
  have G1 := aside (blk_keep G0.out k1 (H.out.not G0.out (by decide) (by decide) (by decide)))
  clear he hs k1 C G0 B0 H
  obtain ⟨s0, s1, z0, z1⟩ := pair G1.out
  go_wp2
  rcases HS.out with ⟨h1, h2, h3, h4⟩ | ⟨h1, h2, h3, h4⟩
  · have E := ver_end (i := 0) h4 K1.out G1.out c m
    exact bodyPost_ret (v := .tuple #[.agg #[.int .i64 c, .int .i64 m], .int .i64 er]) (by simp [results, Tryd.results18, go_sem, s0, s1]) rfl ⟨c, m, er, rfl, HE.out, E.2, .inl ⟨h1, h2, h3, E.1⟩⟩
  · have E := ver_end (i := 0) h4 K1.out G1.out c m
    exact bodyPost_ret (v := .tuple #[.agg #[.int .i64 c, .int .i64 m], .int .i64 er]) (by simp [results, Tryd.results18, go_sem, s0, s1]) rfl ⟨c, m, er, rfl, HE.out, E.2, .inr ⟨h1, h2, h3, E.1⟩⟩
set_option maxHeartbeats 3200000 in
set_option maxRecDepth 100000 in
theorem sdel (k : ByteArray) {Ls : List En} {w : World} {sb g tb : Nat} {nd ck : Int} {T : Tr En Tl} {n : Nat} (h : IsSt w sb g tb nd ck T n) (L : Lanes w) (hH : Hol T Ls) (hl : Ls.length ≤ 1000000) :
    Calls Tryd.prog 21 #[.pointer (some ⟨sb, 0, none⟩), .string k] w fun r w' => ∃ c m er, r = .returned (.tuple #[.agg #[.int .i64 c, .int .i64 m], .int .i64 er]) ∧ er = wrErr k ⟨#[]⟩ nd ck Ls ∧ Keeps (Of sb g tb) w w' ∧
      ((er ≠ 0 ∧ c = 0 ∧ m = 0 ∧ IsSt w' sb g tb nd ck T n) ∨ (er = 0 ∧ c = ck + 1 ∧ m = nd ∧ IsSt w' sb g tb nd (ck + 1) (Tr.put k (wrEn k ⟨#[]⟩ true nd ck) (tof (wrEn k ⟨#[]⟩ true nd ck)) T) (n + Tr.putC k (wrEn k ⟨#[]⟩ true nd ck) (tof (wrEn k ⟨#[]⟩ true nd ck)) T))) := by
  have B0 := aside (bnew w (.cells #[.int .i64 0, .int .i64 0] 42))
  have G0 := aside (heap_alloc_new w (.cells #[.int .i64 0, .int .i64 0] 42))
  have H := aside (h.alloc (.cells #[.int .i64 0, .int .i64 0] 42))
  have C := aside (swrite k ⟨#[]⟩ true H.out (L.keep B0.out) hH hl)
  clear h L hH hl
  go_enter Tryd.func21, Tryd.ntmps21
  go_wp2_with fail
  refine C.out.mono ?_
  rintro r w1 ⟨c, m, er, rfl, he, k1, hs⟩
  have HE := aside he
  have HS := aside hs
  have K1 := aside ((Keeps.of_below B0.out _).trans k1)
  have G1 := aside (blk_keep G0.out k1 (H.out.not G0.out (by decide) (by decide) (by decide)))
  clear he hs k1 C G0 B0 H
  obtain ⟨s0, s1, z0, z1⟩ := pair G1.out
  go_wp2
  rcases HS.out with ⟨h1, h2, h3, h4⟩ | ⟨h1, h2, h3, h4⟩
  · have E := ver_end (i := 0) h4 K1.out G1.out c m
    exact bodyPost_ret (v := .tuple #[.agg #[.int .i64 c, .int .i64 m], .int .i64 er]) (by simp [results, Tryd.results21, go_sem, s0, s1]) rfl ⟨c, m, er, rfl, HE.out, E.2, .inl ⟨h1, h2, h3, E.1⟩⟩
  · have E := ver_end (i := 0) h4 K1.out G1.out c m
    exact bodyPost_ret (v := .tuple #[.agg #[.int .i64 c, .int .i64 m], .int .i64 er]) (by simp [results, Tryd.results21, go_sem, s0, s1]) rfl ⟨c, m, er, rfl, HE.out, E.2, .inr ⟨h1, h2, h3, E.1⟩⟩
end Go.Proofs.YtlbkcndmljlnmaaDoor
namespace Go.Proofs.YtlbkcndmljlnmaaDoor
open Go.RowKit
set_option linter.unusedVariables false
set_option maxHeartbeats 3200000 in
set_option maxRecDepth 100000 in
theorem sloadNil (nd : Int) (w : World) : Calls Tryd.prog 9 #[.int .i64 nd, .int .i64 0, .slice none 0 0] w fun e w' => Below w.heap.size w w' ∧
      ((nodeB nd = false ∧ e = .returned (.tuple #[.pointer none, .int .i64 1])) ∨ (nodeB nd = true ∧ ∃ sb g tb, e = .returned (.tuple #[.pointer (some ⟨sb, 0, none⟩), .int .i64 0]) ∧ IsSt w' sb g tb nd 0 .nil 0 ∧ w.heap.size ≤ sb ∧ w.heap.size ≤ g ∧ w.heap.size ≤ tb)) := by
  by_cases h1 : nd < 0
  · have HB := aside (node_no1 h1)
    go_enter Tryd.func9, Tryd.ntmps9
    go_wp2
    go_ret2
    exact ⟨Below.refl _ _, .inl ⟨HB.out, rfl⟩⟩
  · by_cases h2 : 8 ≤ nd
    · have HB := aside (node_no2 h2)
      go_enter Tryd.func9, Tryd.ntmps9
      go_wp2
      go_ret2
      exact ⟨Below.refl _ _, .inl ⟨HB.out, rfl⟩⟩
    · have HB := aside (node_yes h1 h2)
      have C := aside (sempty nd 0 w)
      go_enter Tryd.func9, Tryd.ntmps9
      go_wp2_with fail
      refine C.out.mono ?_
      rintro e w1 ⟨sb, g, tb, rfl, hs, b1, l1, l2, l3⟩
      have HS := aside hs
      have B1 := aside b1
      have HL := aside (show w.heap.size ≤ sb ∧ w.heap.size ≤ g ∧ w.heap.size ≤ tb from ⟨l1, l2, l3⟩)
      clear hs b1 l1 l2 l3 C
      go_wp2
      go_loopw [36] (fun i wr => i = .int .i64 0 ∧ wr = w1) (fun _ _ => 0)
      case atStart => exact ⟨rfl, rfl⟩
      case round =>
        obtain ⟨rfl, rfl⟩ := hrel
        go_wp2
        go_ret2
        exact ⟨B1.out, .inr ⟨HB.out, sb, g, tb, rfl, HS.out, HL.out⟩⟩
set_option maxHeartbeats 3200000 in
set_option maxRecDepth 100000 in
theorem snew (nd : Int) (w : World) : Calls Tryd.prog 17 #[.int .i64 nd] w fun e w' => Below w.heap.size w w' ∧
      ((nodeB nd = false ∧ e = .returned (.tuple #[.pointer none, .int .i64 1])) ∨ (nodeB nd = true ∧ ∃ sb g tb, e = .returned (.tuple #[.pointer (some ⟨sb, 0, none⟩), .int .i64 0]) ∧ IsSt w' sb g tb nd 0 .nil 0 ∧ w.heap.size ≤ sb ∧ w.heap.size ≤ g ∧ w.heap.size ≤ tb)) := by
  have C := aside (sloadNil nd w)
  go_enter Tryd.func17, Tryd.ntmps17
  go_wp2_with fail
  refine C.out.mono ?_
  rintro e w1 ⟨b1, ⟨hn, rfl⟩ | ⟨hn, sb, g, tb, rfl, hs, hl⟩⟩
  · have HB := aside hn
    have B1 := aside b1
    clear hn b1 C
    go_wp2
    go_ret2
    exact ⟨B1.out, .inl ⟨HB.out, rfl⟩⟩
  · have HB := aside hn
    have B1 := aside b1
    have HS := aside hs
    have HL := aside hl
    clear hn b1 C hs hl
    go_wp2
    go_ret2
    exact ⟨B1.out, .inr ⟨HB.out, sb, g, tb, rfl, HS.out, HL.out⟩⟩
end Go.Proofs.YtlbkcndmljlnmaaDoor
namespace Go.Proofs.YtlbkcndmljlnmaaDoor
open Go.RowKit
set_option linter.unusedVariables false
/-- The store in the block sb holds Ls. -/
def Sto (w : World) (sb g tb : Nat) (nd ck : Int) (Ls : List En) : Prop := ∃ T n, IsSt w sb g tb nd ck T n ∧ Hol T Ls
theorem Sto.below {w w' : World} {sb g tb : Nat} {nd ck : Int} {Ls : List En} (h : Sto w sb g tb nd ck Ls) (b : Below w.heap.size w w') : Sto w' sb g tb nd ck Ls := by
  obtain ⟨T, n, h1, h2⟩ := h
  exact ⟨T, n, h1.below b, h2⟩
theorem Sto.not {w : World} {sb g tb : Nat} {nd ck : Int} {Ls : List En} (h : Sto w sb g tb nd ck Ls) {i : Nat} {cs : Array Value} {U : TypeId} (hi : w.heap[i]? = some (.cells cs U (0, 0))) (h1 : U ≠ 105) (h2 : U ≠ 148) (h3 : U ≠ 150) : ¬ Of sb g tb i := by
  obtain ⟨T, n, h4, h5⟩ := h
  exact h4.not hi h1 h2 h3
theorem qlen {w : World} {sb g tb : Nat} {nd ck : Int} {Ls : List En} (h : Sto w sb g tb nd ck Ls) : Calls Tryd.prog 22 #[.pointer (some ⟨sb, 0, none⟩)] w fun e w' => e = .returned (.int .i64 (Ls.length : Int)) ∧ w' = w := by
  obtain ⟨T, n, h1, h2⟩ := h
  have e1 : (T.cnt : Int) = (Ls.length : Int) := by rw [h2.cnt]
  rw [← e1]
  exact slen h1
theorem qclock {w : World} {sb g tb : Nat} {nd ck : Int} {Ls : List En} (h : Sto w sb g tb nd ck Ls) : Calls Tryd.prog 37 #[.pointer (some ⟨sb, 0, none⟩)] w fun e w' => e = .returned (.int .i64 ck) ∧ w' = w := by
  obtain ⟨T, n, h1, h2⟩ := h
  exact sclock h1
theorem qnode {w : World} {sb g tb : Nat} {nd ck : Int} {Ls : List En} (h : Sto w sb g tb nd ck Ls) : Calls Tryd.prog 36 #[.pointer (some ⟨sb, 0, none⟩)] w fun e w' => e = .returned (.int .i64 nd) ∧ w' = w := by
  obtain ⟨T, n, h1, h2⟩ := h
  exact snode h1
theorem qnew (nd : Int) (w : World) : Calls Tryd.prog 17 #[.int .i64 nd] w fun e w' => Below w.heap.size w w' ∧
      ((nodeB nd = false ∧ e = .returned (.tuple #[.pointer none, .int .i64 1])) ∨ (nodeB nd = true ∧ ∃ sb g tb, e = .returned (.tuple #[.pointer (some ⟨sb, 0, none⟩), .int .i64 0]) ∧ Sto w' sb g tb nd 0 [] ∧ w.heap.size ≤ sb ∧ w.heap.size ≤ g ∧ w.heap.size ≤ tb)) :=
  (snew nd w).mono fun e w' ⟨h1, h2⟩ => ⟨h1, h2.imp id (fun ⟨h3, sb, g, tb, h4, h5, h6⟩ => ⟨h3, sb, g, tb, h4, ⟨_, _, h5, Hol.nil⟩, h6⟩)⟩
theorem qput (k v : ByteArray) {w : World} {sb g tb : Nat} {nd ck : Int} {Ls : List En} (h : Sto w sb g tb nd ck Ls) (L : Lanes w) (hl : Ls.length ≤ 1000000) :
    Calls Tryd.prog 18 #[.pointer (some ⟨sb, 0, none⟩), .string k, .string v] w fun r w' => ∃ c m er, r = .returned (.tuple #[.agg #[.int .i64 c, .int .i64 m], .int .i64 er]) ∧ er = wrErr k v nd ck Ls ∧ Keeps (Of sb g tb) w w' ∧ Lanes w' ∧
      ((er ≠ 0 ∧ c = 0 ∧ m = 0 ∧ Sto w' sb g tb nd ck Ls) ∨ (er = 0 ∧ c = ck + 1 ∧ m = nd ∧ Sto w' sb g tb nd (ck + 1) (insE (wrEn k v false nd ck) Ls))) := by
  obtain ⟨T, n, h1, h2⟩ := h
  refine (sput k v h1 L h2 hl).mono fun r w' ⟨c, m, er, e1, e2, e3, e4⟩ => ⟨c, m, er, e1, e2, e3, L.keeps e3 (L.apart h1), e4.imp (fun ⟨a, b, d, i⟩ => ⟨a, b, d, _, _, i, h2⟩) (fun ⟨a, b, d, i⟩ => ⟨a, b, d, _, _, i, h2.put (wrEn k v false nd ck)⟩)⟩
theorem qdel (k : ByteArray) {w : World} {sb g tb : Nat} {nd ck : Int} {Ls : List En} (h : Sto w sb g tb nd ck Ls) (L : Lanes w) (hl : Ls.length ≤ 1000000) :
    Calls Tryd.prog 21 #[.pointer (some ⟨sb, 0, none⟩), .string k] w fun r w' => ∃ c m er, r = .returned (.tuple #[.agg #[.int .i64 c, .int .i64 m], .int .i64 er]) ∧ er = wrErr k ⟨#[]⟩ nd ck Ls ∧ Keeps (Of sb g tb) w w' ∧ Lanes w' ∧
      ((er ≠ 0 ∧ c = 0 ∧ m = 0 ∧ Sto w' sb g tb nd ck Ls) ∨ (er = 0 ∧ c = ck + 1 ∧ m = nd ∧ Sto w' sb g tb nd (ck + 1) (insE (wrEn k ⟨#[]⟩ true nd ck) Ls))) := by
  obtain ⟨T, n, h1, h2⟩ := h
  refine (sdel k h1 L h2 hl).mono fun r w' ⟨c, m, er, e1, e2, e3, e4⟩ => ⟨c, m, er, e1, e2, e3, L.keeps e3 (L.apart h1), e4.imp (fun ⟨a, b, d, i⟩ => ⟨a, b, d, _, _, i, h2⟩) (fun ⟨a, b, d, i⟩ => ⟨a, b, d, _, _, i, h2.put (wrEn k ⟨#[]⟩ true nd ck)⟩)⟩
end Go.Proofs.YtlbkcndmljlnmaaDoor
namespace Go.Proofs.YtlbkcndmljlnmaaDoor
open Go.RowKit
set_option linter.unusedVariables false
/-- A block of five cells: what they are, and that they may be written. -/
theorem box5 {w : World} {i : Nat} {a b c d e : Value} {T : TypeId} (h : w.heap[i]? = some (.cells #[a, b, c, d, e] T (0, 0))) :
    (w.cell? ⟨i, 0, none⟩ = some a ∧ w.cell? ⟨i, 1, none⟩ = some b ∧ w.cell? ⟨i, 2, none⟩ = some c ∧ w.cell? ⟨i, 3, none⟩ = some d ∧ w.cell? ⟨i, 4, none⟩ = some e) ∧
    w.frozen? ⟨i, 0, none⟩ = false ∧ w.frozen? ⟨i, 1, none⟩ = false ∧ w.frozen? ⟨i, 2, none⟩ = false ∧ w.frozen? ⟨i, 3, none⟩ = false ∧ w.frozen? ⟨i, 4, none⟩ = false :=
  ⟨⟨by rw [cell_of_row _ _ 0 _ _ _ h]; rfl, by rw [cell_of_row _ _ 1 _ _ _ h]; rfl, by rw [cell_of_row _ _ 2 _ _ _ h]; rfl, by rw [cell_of_row _ _ 3 _ _ _ h]; rfl, by rw [cell_of_row _ _ 4 _ _ _ h]; rfl⟩,
    frozen_of_row _ _ 0 _ _ h, frozen_of_row _ _ 1 _ _ h, frozen_of_row _ _ 2 _ _ h, frozen_of_row _ _ 3 _ _ h, frozen_of_row _ _ 4 _ _ h⟩
end Go.Proofs.YtlbkcndmljlnmaaDoor
namespace Go.Proofs.YtlbkcndmljlnmaaDoor
open Go.RowKit
set_option linter.unusedVariables false
/-- A list of entries in memory, with keys of a size that memory has. -/
def EntsIn (w : World) (a : Option Addr) (len cap : Nat) (T : Nat → En) : Prop :=
  len ≤ cap ∧ cap ≤ maxLen ∧ (len = 0 ∨ ∃ b off, a = some ⟨b, off, none⟩ ∧ b < w.heap.size ∧ ∀ i, i < len →
    (w.cell? ⟨b, off + i * 5, none⟩ = some (.string (T i).k) ∧ w.cell? ⟨b, off + i * 5 + 1, none⟩ = some (.int .i64 (T i).c) ∧ w.cell? ⟨b, off + i * 5 + 2, none⟩ = some (.int .i64 (T i).n) ∧ w.cell? ⟨b, off + i * 5 + 3, none⟩ = some (.string (T i).v) ∧ w.cell? ⟨b, off + i * 5 + 4, none⟩ = some (.bool (T i).d)) ∧ (T i).k.size ≤ 140737488351232)
theorem EntsIn.keep {w w' : World} {a : Option Addr} {len cap : Nat} {T : Nat → En} (h : EntsIn w a len cap T) (b : Below w.heap.size w w') : EntsIn w' a len cap T := by
  obtain ⟨h1, h2, h3⟩ := h
  refine ⟨h1, h2, ?_⟩
  rcases h3 with h3 | ⟨bb, off, rfl, hb, hc⟩
  · exact .inl h3
  · refine .inr ⟨bb, off, rfl, by have := b.size; omega, fun i hi => ?_⟩
    obtain ⟨⟨c0, c1, c2, c3, c4⟩, hk⟩ := hc i hi
    exact ⟨⟨cell_in c0 b, cell_in c1 b, cell_in c2 b, cell_in c3 b, cell_in c4 b⟩, hk⟩
end Go.Proofs.YtlbkcndmljlnmaaDoor

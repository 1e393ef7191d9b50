/-
  write, Put and Delete.
  Put, Delete and Take.
  Entries taken in any order: plain.
-/
import Derived.Test.YtlgcdcjhflihiaaDoorBstoreup7
namespace Go.Proofs.YtlgcdcjhflihiaaDoor
open Go.RowKit
set_option linter.unusedVariables false

/-- What write answers: its error, or none. -/
def wrErr (k v : ByteArray) (nd ck : Int) (Ls : List En) : Int :=
  if (16 : Int) < k.size then 20 else if (32 : Int) < v.size then 31 else if roomB k Ls = false then 80 else (Vs.nx ck nd).2.2

/-- The entry that is written. -/
def wrEn (k v : ByteArray) (d : Bool) (nd ck : Int) : En := ⟨k, ck + 1, nd, v, d⟩

theorem ver_end {w X : World} {sb g tb i : Nat} {nd ck : Int} {T : Tr En Tl} {n : Nat} {x y : Value} (h : IsSt X sb g tb nd ck T n) (k : Keeps (Of sb g tb) w X) (hb : X.heap[w.heap.size + i]? = some (.cells #[x, y] 37 (0, 0))) (c m : Int) :
    IsSt ((X.setCell ⟨w.heap.size + i, 0, none⟩ (.int .i64 c)).setCell ⟨w.heap.size + i, 1, none⟩ (.int .i64 m)) sb g tb nd ck T n ∧ Keeps (Of sb g tb) w ((X.setCell ⟨w.heap.size + i, 0, none⟩ (.int .i64 c)).setCell ⟨w.heap.size + i, 1, none⟩ (.int .i64 m)) := by
  have hn := h.not hb (by decide) (by decide) (by decide)
  obtain ⟨p, ht, hT⟩ := h.tree
  have h1 := heap_setCell_same X (w.heap.size + i) 0 _ _ (.int .i64 c) hb
  refine ⟨⟨?_, (h.cnt.setCell (p := ⟨w.heap.size + i, 0, none⟩) _ (fun e => hn (.inr (.inr (Option.some.inj e).symm)))).setCell (p := ⟨w.heap.size + i, 1, none⟩) _ (fun e => hn (.inr (.inr (Option.some.inj e).symm))), ⟨p, ?_, hT.on (((Stay.refl _ X).setCell _ (fun cs e => by dsimp only at e; rw [hb] at e; simp at e)).setCell _ (fun cs e => by dsimp only at e; rw [h1] at e; simp at e))⟩⟩, (k.setCell (p := ⟨w.heap.size + i, 0, none⟩) (fun e => by dsimp only at e; omega) _).setCell (p := ⟨w.heap.size + i, 1, none⟩) (fun e => by dsimp only at e; omega) _⟩
  · rw [heap_setCell_other _ _ _ _ (fun e => hn (.inl e.symm)), heap_setCell_other _ _ _ _ (fun e => hn (.inl e.symm))]; exact h.blk
  · unfold TObjE; rw [heap_setCell_other _ _ _ _ (fun e => hn (.inr (.inl e.symm))), heap_setCell_other _ _ _ _ (fun e => hn (.inr (.inl e.symm)))]; exact ht

theorem ver_lay {w X : World} {sb g tb vb : Nat} {nd ck : Int} {T : Tr En Tl} {n : Nat} {x y : Value} {cs : Array Value} {z u : Value} (h : IsSt X sb g tb nd ck T n) (b : Below w.heap.size w X) (L : Lanes X) (g0 : X.heap[w.heap.size]? = some (.cells cs 39 (0, 0))) (g1 : X.heap[w.heap.size + 1]? = some (.cells #[z, u] 37 (0, 0))) (gv : X.heap[vb]? = some (.cells #[x, y] 37 (0, 0))) (hv : w.heap.size + 2 ≤ vb) (c m : Int) :
    (fun Y : World => IsSt Y sb g tb nd ck T n ∧ Below w.heap.size w Y ∧ Lanes Y ∧ Y.heap[w.heap.size]? = some (.cells cs 39 (0, 0)) ∧ Y.heap[w.heap.size + 1]? = some (.cells #[z, u] 37 (0, 0)) ∧ Y.heap[vb]? = some (.cells #[.int .i64 c, .int .i64 m] 37 (0, 0))) ((X.setCell ⟨vb, 0, none⟩ (.int .i64 c)).setCell ⟨vb, 1, none⟩ (.int .i64 m)) := by
  have h1 := heap_setCell_same X vb 0 _ _ (.int .i64 c) gv
  have h2 := heap_setCell_same _ vb 1 _ _ (.int .i64 m) h1
  have ob : ∀ k, k ≠ vb → ((X.setCell ⟨vb, 0, none⟩ (.int .i64 c)).setCell ⟨vb, 1, none⟩ (.int .i64 m)).heap[k]? = X.heap[k]? := fun k hk => by rw [heap_setCell_other _ _ _ _ hk, heap_setCell_other _ _ _ _ hk]
  have hn := h.not gv (by decide) (by decide) (by decide)
  have kk : Keeps (fun x => x = vb) X ((X.setCell ⟨vb, 0, none⟩ (.int .i64 c)).setCell ⟨vb, 1, none⟩ (.int .i64 m)) := ((Keeps.refl (fun x => x = vb) X).setCell (p := ⟨vb, 0, none⟩) (fun _ => rfl) _).setCell (p := ⟨vb, 1, none⟩) (fun _ => rfl) _
  obtain ⟨p, ht, hT⟩ := h.tree
  refine ⟨⟨(ob _ (fun e => hn (.inl e.symm))).trans h.blk, fun b' e => (ob _ (fun e2 => hn (.inr (.inr (by cases e; exact e2.symm))))).trans (h.cnt b' e), ⟨p, (ob _ (fun e => hn (.inr (.inl e.symm)))).trans ht, hT.on ((Stay.refl _ X).keeps kk (fun i cs' hi e => by subst e; rw [gv] at hi; simp at hi))⟩⟩, ?_, L.keeps kk (fun e => ?_), (ob _ (by omega)).trans g0, (ob _ (by omega)).trans g1, h2⟩
  · exact (b.setCell (p := ⟨vb, 0, none⟩) (by dsimp only; omega) _).setCell (p := ⟨vb, 1, none⟩) (by dsimp only; omega) _
  · have h3 := L.c5
    rw [show World.cell? X ⟨0, 5, none⟩ = none from by rw [← e] at gv; simp [World.cell?, gv]] at h3
    cases h3

/-- The version laid into the entry. -/
theorem wr_box {w X : World} {sb g tb vb : Nat} {ck : Int} {T : Tr En Tl} {n : Nat} {k v : ByteArray} {d : Bool} {a0 a1 : Int} {z u : Value} {c m : Int} {nd' : Int} (h : IsSt X sb g tb nd' ck T n) (b : Below w.heap.size w X) (L : Lanes X) (g0 : X.heap[w.heap.size]? = some (.cells #[.string k, .int .i64 a0, .int .i64 a1, .string v, .bool d] 39 (0, 0))) (g1 : X.heap[w.heap.size + 1]? = some (.cells #[z, u] 37 (0, 0))) (gv : X.heap[vb]? = some (.cells #[.int .i64 c, .int .i64 m] 37 (0, 0))) (hv : w.heap.size + 2 ≤ vb) :
    (fun Y : World => IsSt Y sb g tb nd' ck T n ∧ Lanes Y ∧ Y.heap[w.heap.size + 1]? = some (.cells #[z, u] 37 (0, 0)) ∧ Y.heap[vb]? = some (.cells #[.int .i64 c, .int .i64 m] 37 (0, 0)) ∧ Below w.heap.size w Y ∧ Y.heap[w.heap.size]? = some (.cells #[.string k, .int .i64 c, .int .i64 m, .string v, .bool d] 39 (0, 0))) ((X.setCell ⟨w.heap.size, 1, none⟩ (.int .i64 c)).setCell ⟨w.heap.size, 2, none⟩ (.int .i64 m)) := by
  have h1 := heap_setCell_same X w.heap.size 1 _ _ (.int .i64 c) g0
  have h2 := heap_setCell_same _ w.heap.size 2 _ _ (.int .i64 m) h1
  have ob : ∀ k, k ≠ w.heap.size → ((X.setCell ⟨w.heap.size, 1, none⟩ (.int .i64 c)).setCell ⟨w.heap.size, 2, none⟩ (.int .i64 m)).heap[k]? = X.heap[k]? := fun k hk => by rw [heap_setCell_other _ _ _ _ hk, heap_setCell_other _ _ _ _ hk]
  have hn := h.not g0 (by decide) (by decide) (by decide)
  have kk : Keeps (fun x => x = w.heap.size) X ((X.setCell ⟨w.heap.size, 1, none⟩ (.int .i64 c)).setCell ⟨w.heap.size, 2, none⟩ (.int .i64 m)) := ((Keeps.refl (fun x => x = w.heap.size) X).setCell (p := ⟨w.heap.size, 1, none⟩) (fun _ => rfl) _).setCell (p := ⟨w.heap.size, 2, none⟩) (fun _ => rfl) _
  obtain ⟨p, ht, hT⟩ := h.tree
  refine ⟨⟨(ob _ (fun e => hn (.inl e.symm))).trans h.blk, fun b' e => (ob _ (fun e2 => hn (.inr (.inr (by cases e; exact e2.symm))))).trans (h.cnt b' e), ⟨p, (ob _ (fun e => hn (.inr (.inl e.symm)))).trans ht, hT.on ((Stay.refl _ X).keeps kk (fun i cs' hi e => by subst e; rw [g0] at hi; simp at hi))⟩⟩, L.keeps kk (fun e => ?_), (ob _ (by omega)).trans g1, (ob _ (by omega)).trans gv, ?_, h2⟩
  · have h3 := L.c5
    rw [show World.cell? X ⟨0, 5, none⟩ = none from by rw [← e] at g0; simp [World.cell?, g0]] at h3
    cases h3
  · exact (b.setCell (p := ⟨w.heap.size, 1, none⟩) (by dsimp only; omega) _).setCell (p := ⟨w.heap.size, 2, none⟩) (by dsimp only; omega) _

set_option maxHeartbeats 3200000 in
set_option maxRecDepth 100000 in
theorem write_go (k v : ByteArray) (d : Bool) {Ls : List En} {w : World} {sb g tb : Nat} {nd ck : Int} {T : Tr En Tl} {n : Nat} (H0 : IsSt ((w.alloc (.cells #[.string k, .int .i64 0, .int .i64 0, .string v, .bool d] 39)).alloc (.cells #[.int .i64 0, .int .i64 0] 37)) sb g tb nd ck T n) (L : Lanes ((w.alloc (.cells #[.string k, .int .i64 0, .int .i64 0, .string v, .bool d] 39)).alloc (.cells #[.int .i64 0, .int .i64 0] 37))) (hH : Hol T Ls) (hl : Ls.length ≤ 1000000) (B0 : Below w.heap.size w ((w.alloc (.cells #[.string k, .int .i64 0, .int .i64 0, .string v, .bool d] 39)).alloc (.cells #[.int .i64 0, .int .i64 0] 37)))
    (g0 : ((w.alloc (.cells #[.string k, .int .i64 0, .int .i64 0, .string v, .bool d] 39)).alloc (.cells #[.int .i64 0, .int .i64 0] 37)).heap[w.heap.size]? = some (.cells #[.string k, .int .i64 0, .int .i64 0, .string v, .bool d] 39 (0, 0))) (g1 : ((w.alloc (.cells #[.string k, .int .i64 0, .int .i64 0, .string v, .bool d] 39)).alloc (.cells #[.int .i64 0, .int .i64 0] 37)).heap[w.heap.size + 1]? = some (.cells #[.int .i64 0, .int .i64 0] 37 (0, 0))) (h1 : ¬ (16 : Int) < k.size) (h2 : ¬ (32 : Int) < v.size)
    (CR : Hid (∀ (W : World), IsSt W sb g tb nd ck T n → Calls Tryd.prog 35 #[.pointer (some ⟨sb, 0, none⟩), .string k] W fun r w' => r = .returned (.bool true) ∧ Below W.heap.size W w')) (HE : Hid (wrErr k v nd ck Ls = (Vs.nx ck nd).2.2))
    (q0 : ((w.alloc (.cells #[.string k, .int .i64 0, .int .i64 0, .string v, .bool d] 39)).alloc (.cells #[.int .i64 0, .int .i64 0] 37)).cell? ⟨w.heap.size, 0, none⟩ = some (.string k)) (q3 : ((w.alloc (.cells #[.string k, .int .i64 0, .int .i64 0, .string v, .bool d] 39)).alloc (.cells #[.int .i64 0, .int .i64 0] 37)).cell? ⟨w.heap.size, 3, none⟩ = some (.string v)) :
    Calls Tryd.prog 33 #[.pointer (some ⟨sb, 0, none⟩), .agg #[.string k, .int .i64 0, .int .i64 0, .string v, .bool d]] w fun r w' => ∃ c m er, r = .returned (.tuple #[.agg #[.int .i64 c, .int .i64 m], .int .i64 er]) ∧ er = wrErr k v nd ck Ls ∧ Keeps (Of sb g tb) w w' ∧
      ((er ≠ 0 ∧ c = 0 ∧ m = 0 ∧ IsSt w' sb g tb nd ck T n) ∨ (er = 0 ∧ c = ck + 1 ∧ m = nd ∧ IsSt w' sb g tb nd (ck + 1) (Tr.put k (wrEn k v d nd ck) (tof (wrEn k v d nd ck)) T) (n + Tr.putC k (wrEn k v d nd ck) (tof (wrEn k v d nd ck)) T))) := by
  have H := aside H0
  have B := aside B0
  have G0 := aside g0
  have G1 := aside g1
  have LL := aside L
  obtain ⟨c, m, er, hnx⟩ : ∃ c m er, Vs.nx ck nd = (c, m, er) := ⟨_, _, _, rfl⟩
  have CN := aside (fun (W : World) => next_at hnx W)
  rw [hnx] at HE
  have HN : Hid ((er ≠ 0 ∧ c = 0 ∧ m = 0) ∨ (er = 0 ∧ c = ck + 1 ∧ m = nd ∧ ck < 1099511627776)) := by
    rcases nx_cases ck nd with h | h | ⟨h, h4, h5, -⟩ <;> rw [hnx] at h <;> injection h with h5 h6 <;> injection h6 with h6 h7 <;> subst h5 h6 h7
    · exact .inl ⟨by decide, rfl, rfl⟩
    · exact .inl ⟨by decide, rfl, rfl⟩
    · exact .inr ⟨rfl, rfl, rfl, h5⟩
  have CH := aside (fun (W : World) (h : IsSt W sb g tb nd ck T n) (hL : Lanes W) => shold ⟨k, c, m, v, d⟩ h hL hH hl (by dsimp only; omega))
  dsimp only at CH
  clear H0 B0 g0 g1 L hH hl hnx
  go_enter Tryd.func33, Tryd.ntmps33
  go_wp2_with fail
  refine (CR.out _ H.out).mono ?_
  rintro e w1 ⟨rfl, b1⟩
  have H1 := aside (H.out.below b1)
  have B1 := aside (bthen B.out b1)
  have G01 := aside (blk_on G0.out b1)
  have G11 := aside (blk_on G1.out b1)
  have L1 := aside (LL.out.keep b1)
  clear b1 q0 q3 H G0 G1 B CR LL
  go_wp2_with fail
  refine wp_region_held_drew (S := fun X => X.cell? ⟨sb, 0, none⟩ = some (.int .i64 nd) ∧ X.cell? ⟨sb, 1, none⟩ = some (.int .i64 ck)) (by kernel_rfl) ⟨(quad H1.out.drew.blk).1, (quad H1.out.drew.blk).2.1⟩ (fun hHeld => ?_)
  refine wpAnyH_take (i := 0) (v := ?_) rfl (by kernel_rfl) (by kernel_rfl) (by kernel_rfl) (fun _ _ _ h => h) (Or.inl ⟨by rfl, ?_⟩) (by assumption) ?_
  rotate_left
  · intro w hSw
    go_simp
    try with_reducible rfl
  simp only [Act.put, List.getElem_toArray, List.getElem_cons_zero, List.setIfInBounds_toArray, List.set_cons_zero, List.set_cons_succ]
  refine wpAnyH_take (i := 1) (v := ?_) rfl (by kernel_rfl) (by kernel_rfl) (by kernel_rfl) (fun _ _ _ h => h) (Or.inl ⟨by rfl, ?_⟩) (by assumption) ?_
  rotate_left
  · intro w hSw
    go_simp
    try with_reducible rfl
  simp only [Act.put, List.getElem_toArray, List.getElem_cons_zero, List.getElem_cons_succ, List.setIfInBounds_toArray, List.set_cons_zero, List.set_cons_succ]
  refine wpAnyH_take (i := 2) (v := ?_) rfl (by kernel_rfl) (by kernel_rfl) (by kernel_rfl) (fun _ _ _ h => h) (Or.inl ⟨by rfl, ?_⟩) (by assumption) ?_
  rotate_left
  · intro w hSw
    go_simp
    try with_reducible rfl
  simp only [Act.put, List.getElem_toArray, List.getElem_cons_zero, List.getElem_cons_succ, List.setIfInBounds_toArray, List.set_cons_zero, List.set_cons_succ]
  refine wpAnyH_take (i := 3) (v := ?_) rfl (by kernel_rfl) (by kernel_rfl) (by kernel_rfl) (fun _ _ _ h => h) (Or.inl ⟨by rfl, ?_⟩) (by assumption) ?_
  rotate_left
  · intro w hSw
    go_simp
    try with_reducible rfl
  simp only [Act.put, List.getElem_toArray, List.getElem_cons_zero, List.getElem_cons_succ, List.setIfInBounds_toArray, List.set_cons_zero, List.set_cons_succ]
  refine wpAnyH_take (i := 4) (v := ?_) rfl (by kernel_rfl) (by kernel_rfl) (by kernel_rfl) (fun _ _ _ h => h) (Or.inl ⟨by rfl, ?_⟩) (by assumption) ?_
  rotate_left
  · intro w hSw
    go_simp
    try with_reducible rfl
  simp only [Act.put, List.getElem_toArray, List.getElem_cons_zero, List.getElem_cons_succ, List.setIfInBounds_toArray, List.set_cons_zero, List.set_cons_succ]
  refine wpAnyH_take (i := 5) (v := ?_) rfl (by kernel_rfl) (by kernel_rfl) (by kernel_rfl) (fun _ _ _ h => h) (Or.inl ⟨by rfl, ?_⟩) (by assumption) ?_
  rotate_left
  · intro w hSw
    go_simp
    try with_reducible rfl
  simp only [Act.put, List.getElem_toArray, List.getElem_cons_zero, List.getElem_cons_succ, List.setIfInBounds_toArray, List.set_cons_zero, List.set_cons_succ]
  refine wpAnyH_take (i := 6) (v := ?_) rfl (by kernel_rfl) (by kernel_rfl) (by kernel_rfl) (fun _ _ _ h => h) (Or.inl ⟨by rfl, ?_⟩) (by assumption) ?_
  rotate_left
  · intro w hSw
    go_simp
    try with_reducible rfl
  simp only [Act.put, List.getElem_toArray, List.getElem_cons_zero, List.getElem_cons_succ, List.setIfInBounds_toArray, List.set_cons_zero, List.set_cons_succ]
  refine wpAnyH_take (i := 7) (v := ?_) rfl (by kernel_rfl) (by kernel_rfl) (by kernel_rfl) (fun _ _ _ h => h) (Or.inl ⟨by rfl, ?_⟩) (by assumption) ?_
  rotate_left
  · intro w hSw
    go_simp
    try with_reducible rfl
  simp only [Act.put, List.getElem_toArray, List.getElem_cons_zero, List.getElem_cons_succ, List.setIfInBounds_toArray, List.set_cons_zero, List.set_cons_succ]
  refine wpAnyH_ready (rs := [8, 12]) (by kernel_rfl) (by simp) ?_
  refine AllReadyH.cons rfl (fun K hK => ?_) (AllReadyH.cons rfl (fun K hK => ?_) AllReadyH.nil)
  · go_simp
    refine (CN.out _).mono ?_
    rintro e w9 ⟨rfl, bb⟩
    have HX := aside (H1.out.drew.below bb)
    refine hK.out _ _ (⟨(quad HX.out.blk).1, (quad HX.out.blk).2.1⟩) (fun hHeld => ?_)
    clear hK K
    have H2 := aside (HX.out.alloc (.cells #[.int .i64 c, .int .i64 m] 37))
    have B2 := aside (bthen (bthen B1.out.drew bb) (bnew _ (.cells #[.int .i64 c, .int .i64 m] 37)))
    have G02 := aside (blk_on (blk_on (show w1.drew.heap[w.heap.size]? = some _ from G01.out) bb) (bnew _ (.cells #[.int .i64 c, .int .i64 m] 37)))
    have G12 := aside (blk_on (blk_on (show w1.drew.heap[w.heap.size + 1]? = some _ from G11.out) bb) (bnew _ (.cells #[.int .i64 c, .int .i64 m] 37)))
    have L2 := aside ((L1.out.drew.keep bb).keep (bnew _ (.cells #[.int .i64 c, .int .i64 m] 37)))
    have GV := aside (heap_alloc_new w9 (.cells #[.int .i64 c, .int .i64 m] 37))
    have HV := aside (show w.heap.size + 2 ≤ w9.heap.size from by have := lt_of_blk (blk_on (show w1.drew.heap[w.heap.size + 1]? = some _ from G11.out) bb); omega)
    clear bb
    refine wpAnyH_take (i := 9) (v := ?_) rfl (by kernel_rfl) (by kernel_rfl) (by kernel_rfl) (fun _ _ _ h => h) (Or.inl ⟨by rfl, ?_⟩) (by assumption) ?_
    rotate_left
    · intro w hSw
      go_simp
      try with_reducible rfl
    simp only [Act.put, List.getElem_toArray, List.getElem_cons_zero, List.getElem_cons_succ, List.setIfInBounds_toArray, List.set_cons_zero, List.set_cons_succ]
    refine wpAnyH_take (i := 10) (v := ?_) rfl (by kernel_rfl) (by kernel_rfl) (by kernel_rfl) (fun _ _ _ h => h) (Or.inl ⟨by rfl, ?_⟩) (by assumption) ?_
    rotate_left
    · intro w hSw
      go_simp
      try with_reducible rfl
    simp only [Act.put, List.getElem_toArray, List.getElem_cons_zero, List.getElem_cons_succ, List.setIfInBounds_toArray, List.set_cons_zero, List.set_cons_succ]
    refine wpAnyH_take (i := 11) (v := ?_) rfl (by kernel_rfl) (by kernel_rfl) (by kernel_rfl) (fun _ _ _ h => h) (Or.inl ⟨by rfl, ?_⟩) (by assumption) ?_
    rotate_left
    · intro w hSw
      go_simp
      try with_reducible rfl
    simp only [Act.put, List.getElem_toArray, List.getElem_cons_zero, List.getElem_cons_succ, List.setIfInBounds_toArray, List.set_cons_zero, List.set_cons_succ]
    refine wpAnyH_ready (rs := [12]) (by kernel_rfl) (by simp) ?_
    refine AllReadyH.cons rfl (fun K hK => ?_) AllReadyH.nil
    go_simp
    refine hK.out _ _ (⟨(quad (HX.out.alloc _).blk).1, (quad (HX.out.alloc _).blk).2.1⟩) (fun hHeld => ?_)
    clear hK K 
    refine wpAnyH_ready (rs := [13]) (by kernel_rfl) (by simp) ?_
    refine AllReadyH.cons rfl (fun K hK => ?_) AllReadyH.nil
    go_simp
    refine hK.out _ _ (⟨(quad (HX.out.alloc _).blk).1, (quad (HX.out.alloc _).blk).2.1⟩) (fun hHeld => ?_)
    clear hK K 
    refine wpAnyH_take (i := 14) (v := ?_) rfl (by kernel_rfl) (by kernel_rfl) (by kernel_rfl) (fun _ _ _ h => h) (Or.inl ⟨by rfl, ?_⟩) (by assumption) ?_
    rotate_left
    · intro w hSw
      go_simp
      try with_reducible rfl
    simp only [Act.put, List.getElem_toArray, List.getElem_cons_zero, List.getElem_cons_succ, List.setIfInBounds_toArray, List.set_cons_zero, List.set_cons_succ]
    refine wpAnyH_done (by kernel_rfl) ?_ _
    clear hHeld HX H1 B1 G01 G11 L1 CN
    generalize w9.alloc (.cells #[.int .i64 c, .int .i64 m] 37) = X at *
    generalize w9.heap.size = vb at *
    rcases HN.out with ⟨he, rfl, rfl⟩ | ⟨rfl, rfl, rfl, hck⟩
    · have he' : (er == 0) = false := beq_eq_false_iff_ne.2 he
      have HEr := aside he
      clear he
      obtain ⟨s0, s1, z0, z1⟩ := pair G12.out
      have E := aside (ver_end (i := 1) H2.out (Keeps.of_below B2.out _) G12.out 0 0)
      go_wp2
      refine bodyPost_ret (v := .tuple #[.agg #[.int .i64 0, .int .i64 0], .int .i64 er]) (by simp [results, Tryd.results33, go_sem, s0, s1]) rfl ⟨0, 0, er, rfl, HE.out.symm, E.out.2, .inl ⟨HEr.out, rfl, rfl, E.out.1⟩⟩
    · clear hck
      obtain ⟨v0, v1, -, -⟩ := pair GV.out
      obtain ⟨q0, q1, q2, q3, q4, y0, y1, y2, y3, y4⟩ := penta G02.out
      have WB := aside (wr_box H2.out B2.out L2.out G02.out G12.out GV.out HV.out)
      go_wp2_with fail
      obtain ⟨H3, L3, G13, GV3, K3, q3'⟩ := WB.out
      refine (CH.out _ H3 L3).mono ?_
      rintro r w4 ⟨rfl, h4, k4⟩
      have ec : ckm ck (ck + 1) = ck + 1 := by unfold ckm; rw [if_pos (by omega)]
      rw [ec] at h4
      have G14 := aside (blk_keep G13 k4 (H3.not G13 (by decide) (by decide) (by decide)))
      have GV4 := aside (blk_keep GV3 k4 (H3.not GV3 (by decide) (by decide) (by decide)))
      have E := aside (ver_end (i := 1) h4 ((Keeps.of_below K3 _).trans k4) G14.out (ck + 1) m)
      clear h4 k4 H3 L3 G13 GV3 K3 q3' WB CH q0 q1 q2 q3 q4 y0 y1 y2 y3 y4 v0 v1 ec
      obtain ⟨v0, v1, -, -⟩ := pair GV4.out
      obtain ⟨s0, s1, z0, z1⟩ := pair G14.out
      go_wp2
      refine bodyPost_ret (v := .tuple #[.agg #[.int .i64 (ck + 1), .int .i64 m], .int .i64 0]) (by simp [results, Tryd.results33, go_sem, s0, s1]) rfl ⟨ck + 1, m, 0, rfl, HE.out.symm, E.out.2, .inr ⟨rfl, rfl, rfl, E.out.1⟩⟩
  · go_simp
    refine hK.out _ _ (⟨(quad (H1.out.alloc _).drew.blk).1, (quad (H1.out.alloc _).drew.blk).2.1⟩) (fun hHeld => ?_)
    clear hK K
    have HX := aside (H1.out.alloc (.cells #[.int .i64 0, .int .i64 0] 37)).drew
    have GX := aside (show (w1.alloc (.cells #[.int .i64 0, .int .i64 0] 37)).drew.heap[w1.heap.size]? = some (.cells #[.int .i64 0, .int .i64 0] 37 (0, 0)) from heap_alloc_new w1 _)
    have BX := aside (bthen B1.out (bnew _ (.cells #[.int .i64 0, .int .i64 0] 37))).drew
    have G0X := aside (show (w1.alloc (.cells #[.int .i64 0, .int .i64 0] 37)).drew.heap[w.heap.size]? = some _ from blk_on G01.out (bnew _ _).drew)
    have G1X := aside (show (w1.alloc (.cells #[.int .i64 0, .int .i64 0] 37)).drew.heap[w.heap.size + 1]? = some _ from blk_on G11.out (bnew _ _).drew)
    have LX := aside (L1.out.keep (bnew _ (.cells #[.int .i64 0, .int .i64 0] 37))).drew
    have HV := aside (show w.heap.size + 2 ≤ w1.heap.size from by have := lt_of_blk G11.out; omega)
    clear H1 B1 G01 G11 L1
    generalize w1.heap.size = vb at *
    refine wpAnyH_ready (rs := [8]) (by kernel_rfl) (by simp) ?_
    refine AllReadyH.cons rfl (fun K hK => ?_) AllReadyH.nil
    go_simp
    refine (CN.out _).mono ?_
    rintro e w9 ⟨rfl, bb⟩
    refine hK.out _ _ (⟨(quad (HX.out.below bb).blk).1, (quad (HX.out.below bb).blk).2.1⟩) (fun hHeld => ?_)
    clear hK K 
    have HY := aside (HX.out.below bb)
    have GY := aside (blk_on GX.out bb)
    have BY := aside (BX.out.trans (bb.mono BX.out.size))
    have G0Y := aside (blk_on G0X.out bb)
    have G1Y := aside (blk_on G1X.out bb)
    have LY := aside (LX.out.keep bb)
    clear bb
    refine wpAnyH_take (i := 9) (v := ?_) rfl (by kernel_rfl) (by kernel_rfl) (by kernel_rfl) (fun _ _ _ h => h) (Or.inl ⟨by rfl, ?_⟩) (by assumption) ?_
    rotate_left
    · intro w hSw
      go_simp
      try with_reducible rfl
    simp only [Act.put, List.getElem_toArray, List.getElem_cons_zero, List.getElem_cons_succ, List.setIfInBounds_toArray, List.set_cons_zero, List.set_cons_succ]
    refine wpAnyH_take (i := 10) (v := ?_) rfl (by kernel_rfl) (by kernel_rfl) (by kernel_rfl) (fun _ _ _ h => h) (Or.inl ⟨by rfl, ?_⟩) (by assumption) ?_
    rotate_left
    · intro w hSw
      go_simp
      try with_reducible rfl
    simp only [Act.put, List.getElem_toArray, List.getElem_cons_zero, List.getElem_cons_succ, List.setIfInBounds_toArray, List.set_cons_zero, List.set_cons_succ]
    refine wpAnyH_take (i := 11) (v := ?_) rfl (by kernel_rfl) (by kernel_rfl) (by kernel_rfl) (fun _ _ _ h => h) (Or.inl ⟨by rfl, ?_⟩) (by assumption) ?_
    rotate_left
    · intro w hSw
      go_simp
      try with_reducible rfl
    simp only [Act.put, List.getElem_toArray, List.getElem_cons_zero, List.getElem_cons_succ, List.setIfInBounds_toArray, List.set_cons_zero, List.set_cons_succ]
    obtain ⟨u0, u1, o0, o1⟩ := pair GY.out
    have E9 := aside (ver_lay HY.out BY.out LY.out G0Y.out G1Y.out GY.out HV.out c m)
    refine wpAnyH_ready (rs := [13]) (by kernel_rfl) (by simp) ?_
    refine AllReadyH.cons rfl (fun K hK => ?_) AllReadyH.nil
    go_simp
    refine hK.out _ _ (⟨(quad E9.out.1.blk).1, (quad E9.out.1.blk).2.1⟩) (fun hHeld => ?_)
    clear hK K 
    refine wpAnyH_take (i := 14) (v := ?_) rfl (by kernel_rfl) (by kernel_rfl) (by kernel_rfl) (fun _ _ _ h => h) (Or.inl ⟨by rfl, ?_⟩) (by assumption) ?_
    rotate_left
    · intro w hSw
      go_simp
      try with_reducible rfl
    simp only [Act.put, List.getElem_toArray, List.getElem_cons_zero, List.getElem_cons_succ, List.setIfInBounds_toArray, List.set_cons_zero, List.set_cons_succ]
    refine wpAnyH_done (by kernel_rfl) ?_ _
    clear hHeld u0 u1 o0 o1 HX GX BX G0X G1X LX HY GY BY G0Y G1Y LY CN
    generalize (w9.setCell ⟨vb, 0, none⟩ (.int .i64 c)).setCell ⟨vb, 1, none⟩ (.int .i64 m) = X at *
    obtain ⟨H2', B2', L2', G02', G12', GV'⟩ := E9.out
    have H2 := aside H2'
    have B2 := aside B2'
    have L2 := aside L2'
    have G02 := aside G02'
    have G12 := aside G12'
    have GV := aside GV'
    clear H2' B2' L2' G02' G12' GV' E9
    rcases HN.out with ⟨he, rfl, rfl⟩ | ⟨rfl, rfl, rfl, hck⟩
    · have he' : (er == 0) = false := beq_eq_false_iff_ne.2 he
      have HEr := aside he
      clear he
      obtain ⟨s0, s1, z0, z1⟩ := pair G12.out
      have E := aside (ver_end (i := 1) H2.out (Keeps.of_below B2.out _) G12.out 0 0)
      go_wp2
      refine bodyPost_ret (v := .tuple #[.agg #[.int .i64 0, .int .i64 0], .int .i64 er]) (by simp [results, Tryd.results33, go_sem, s0, s1]) rfl ⟨0, 0, er, rfl, HE.out.symm, E.out.2, .inl ⟨HEr.out, rfl, rfl, E.out.1⟩⟩
    · clear hck
      obtain ⟨v0, v1, -, -⟩ := pair GV.out
      obtain ⟨q0, q1, q2, q3, q4, y0, y1, y2, y3, y4⟩ := penta G02.out
      have WB := aside (wr_box H2.out B2.out L2.out G02.out G12.out GV.out HV.out)
      go_wp2_with fail
      obtain ⟨H3, L3, G13, GV3, K3, q3'⟩ := WB.out
      refine (CH.out _ H3 L3).mono ?_
      rintro r w4 ⟨rfl, h4, k4⟩
      have ec : ckm ck (ck + 1) = ck + 1 := by unfold ckm; rw [if_pos (by omega)]
      rw [ec] at h4
      have G14 := aside (blk_keep G13 k4 (H3.not G13 (by decide) (by decide) (by decide)))
      have GV4 := aside (blk_keep GV3 k4 (H3.not GV3 (by decide) (by decide) (by decide)))
      have E := aside (ver_end (i := 1) h4 ((Keeps.of_below K3 _).trans k4) G14.out (ck + 1) m)
      clear h4 k4 H3 L3 G13 GV3 K3 q3' WB CH q0 q1 q2 q3 q4 y0 y1 y2 y3 y4 v0 v1 ec
      obtain ⟨v0, v1, -, -⟩ := pair GV4.out
      obtain ⟨s0, s1, z0, z1⟩ := pair G14.out
      go_wp2
      refine bodyPost_ret (v := .tuple #[.agg #[.int .i64 (ck + 1), .int .i64 m], .int .i64 0]) (by simp [results, Tryd.results33, go_sem, s0, s1]) rfl ⟨ck + 1, m, 0, rfl, HE.out.symm, E.out.2, .inr ⟨rfl, rfl, rfl, E.out.1⟩⟩

set_option maxHeartbeats 3200000 in
set_option maxRecDepth 100000 in
theorem swrite (k v : ByteArray) (d : Bool) {Ls : List En} {w : World} {sb g tb : Nat} {nd ck : Int} {T : Tr En Tl} {n : Nat} (h : IsSt w sb g tb nd ck T n) (L : Lanes w) (hH : Hol T Ls) (hl : Ls.length ≤ 1000000) :
    Calls Tryd.prog 33 #[.pointer (some ⟨sb, 0, none⟩), .agg #[.string k, .int .i64 0, .int .i64 0, .string v, .bool d]] w fun r w' => ∃ c m er, r = .returned (.tuple #[.agg #[.int .i64 c, .int .i64 m], .int .i64 er]) ∧ er = wrErr k v nd ck Ls ∧ Keeps (Of sb g tb) w w' ∧
      ((er ≠ 0 ∧ c = 0 ∧ m = 0 ∧ IsSt w' sb g tb nd ck T n) ∨ (er = 0 ∧ c = ck + 1 ∧ m = nd ∧ IsSt w' sb g tb nd (ck + 1) (Tr.put k (wrEn k v d nd ck) (tof (wrEn k v d nd ck)) T) (n + Tr.putC k (wrEn k v d nd ck) (tof (wrEn k v d nd ck)) T))) := by
  have b0 := bnew w (.cells #[.string k, .int .i64 0, .int .i64 0, .string v, .bool d] 39)
  have b1 := bnew (w.alloc (.cells #[.string k, .int .i64 0, .int .i64 0, .string v, .bool d] 39)) (.cells #[.int .i64 0, .int .i64 0] 37)
  have B := aside (bthen b0 b1)
  have G0 := aside (blk_on (heap_alloc_new w (.cells #[.string k, .int .i64 0, .int .i64 0, .string v, .bool d] 39)) b1)
  have g1 := heap_alloc_new (w.alloc (.cells #[.string k, .int .i64 0, .int .i64 0, .string v, .bool d] 39)) (.cells #[.int .i64 0, .int .i64 0] 37)
  simp only [World.size_alloc] at g1
  have G1 := aside g1
  have H := aside (h.below B.out)
  obtain ⟨q0, q1, q2, q3, q4, y0, y1, y2, y3, y4⟩ := penta G0.out
  obtain ⟨r0, r1, x0, x1⟩ := pair G1.out
  by_cases h1 : (16 : Int) < k.size
  · have HE := aside (show wrErr k v nd ck Ls = 20 from by unfold wrErr; rw [if_pos h1])
    clear h L hH hl b0 b1 g1 q1 q2 q3 q4 y0 y1 y2 y3 y4
    go_enter Tryd.func33, Tryd.ntmps33
    go_wp2
    refine bodyPost_ret (v := .tuple #[.agg #[.int .i64 0, .int .i64 0], .int .i64 20]) (by simp [results, Tryd.results33, go_sem]) rfl ⟨0, 0, 20, rfl, HE.out.symm, Keeps.of_below B.out _, .inl ⟨by decide, rfl, rfl, H.out⟩⟩
  · by_cases h2 : (32 : Int) < v.size
    · have HE := aside (show wrErr k v nd ck Ls = 31 from by unfold wrErr; rw [if_neg h1, if_pos h2])
      clear h L hH hl b0 b1 g1 q1 q2 q4 y0 y1 y2 y3 y4
      go_enter Tryd.func33, Tryd.ntmps33
      go_wp2
      refine bodyPost_ret (v := .tuple #[.agg #[.int .i64 0, .int .i64 0], .int .i64 31]) (by simp [results, Tryd.results33, go_sem]) rfl ⟨0, 0, 31, rfl, HE.out.symm, Keeps.of_below B.out _, .inl ⟨by decide, rfl, rfl, H.out⟩⟩
    · have CR := aside (fun (W : World) (h : IsSt W sb g tb nd ck T n) => sroom k h hH hl)
      cases h3 : roomB k Ls
      · have HE := aside (show wrErr k v nd ck Ls = 80 from by unfold wrErr; rw [if_neg h1, if_neg h2, if_pos h3])
        rw [h3] at CR
        clear h L hH hl b0 b1 g1 h3 y0 y1 y2 y3 y4
        go_enter Tryd.func33, Tryd.ntmps33
        go_wp2_with fail
        refine (CR.out _ H.out).mono ?_
        rintro e w1 ⟨rfl, b1⟩
        have H1 := aside (H.out.below b1)
        have B1 := aside (bthen B.out b1)
        have G1' := aside (blk_on G1.out b1)
        obtain ⟨s0, s1, z0, z1⟩ := pair G1'.out
        have E := aside (ver_end H1.out (Keeps.of_below B1.out (Of sb g tb)) G1'.out 0 0)
        clear b1 q0 q1 q2 q3 q4 r0 r1 x0 x1 H G0 G1 B
        go_wp2
        refine bodyPost_ret (v := .tuple #[.agg #[.int .i64 0, .int .i64 0], .int .i64 80]) (by simp [results, Tryd.results33, go_sem, s0, s1]) rfl ⟨0, 0, 80, rfl, HE.out.symm, E.out.2, .inl ⟨by decide, rfl, rfl, E.out.1⟩⟩
      · have HE := aside (show wrErr k v nd ck Ls = (Vs.nx ck nd).2.2 from by unfold wrErr; rw [if_neg h1, if_neg h2, if_neg (by rw [h3]; decide)])
        rw [h3] at CR
        exact write_go k v d H.out (L.keep B.out) hH hl B.out G0.out G1.out h1 h2 CR HE q0 q3

end Go.Proofs.YtlgcdcjhflihiaaDoor
namespace Go.Proofs.YtlgcdcjhflihiaaDoor
open Go.RowKit
set_option linter.unusedVariables false

set_option maxHeartbeats 3200000 in
set_option maxRecDepth 100000 in
theorem sput (k v : ByteArray) {Ls : List En} {w : World} {sb g tb : Nat} {nd ck : Int} {T : Tr En Tl} {n : Nat} (h : IsSt w sb g tb nd ck T n) (L : Lanes w) (hH : Hol T Ls) (hl : Ls.length ≤ 1000000) :
    Calls Tryd.prog 15 #[.pointer (some ⟨sb, 0, none⟩), .string k, .string v] w fun r w' => ∃ c m er, r = .returned (.tuple #[.agg #[.int .i64 c, .int .i64 m], .int .i64 er]) ∧ er = wrErr k v nd ck Ls ∧ Keeps (Of sb g tb) w w' ∧
      ((er ≠ 0 ∧ c = 0 ∧ m = 0 ∧ IsSt w' sb g tb nd ck T n) ∨ (er = 0 ∧ c = ck + 1 ∧ m = nd ∧ IsSt w' sb g tb nd (ck + 1) (Tr.put k (wrEn k v false nd ck) (tof (wrEn k v false nd ck)) T) (n + Tr.putC k (wrEn k v false nd ck) (tof (wrEn k v false nd ck)) T))) := by
  have B0 := aside (bnew w (.cells #[.int .i64 0, .int .i64 0] 37))
  have G0 := aside (heap_alloc_new w (.cells #[.int .i64 0, .int .i64 0] 37))
  have H := aside (h.alloc (.cells #[.int .i64 0, .int .i64 0] 37))
  have C := aside (swrite k v false H.out (L.keep B0.out) hH hl)
  clear h L hH hl
  go_enter Tryd.func15, Tryd.ntmps15
  go_wp2_with fail
  refine C.out.mono ?_
  rintro r w1 ⟨c, m, er, rfl, he, k1, hs⟩
  have HE := aside he
  have HS := aside hs
  have K1 := aside ((Keeps.of_below B0.out _).trans k1)
  have G1 := aside (blk_keep G0.out k1 (H.out.not G0.out (by decide) (by decide) (by decide)))
  clear he hs k1 C G0 B0 H
  obtain ⟨s0, s1, z0, z1⟩ := pair G1.out
  go_wp2
  rcases HS.out with ⟨h1, h2, h3, h4⟩ | ⟨h1, h2, h3, h4⟩
  · have E := ver_end (i := 0) h4 K1.out G1.out c m
    exact bodyPost_ret (v := .tuple #[.agg #[.int .i64 c, .int .i64 m], .int .i64 er]) (by simp [results, Tryd.results15, go_sem, s0, s1]) rfl ⟨c, m, er, rfl, HE.out, E.2, .inl ⟨h1, h2, h3, E.1⟩⟩
  · have E := ver_end (i := 0) h4 K1.out G1.out c m
    exact bodyPost_ret (v := .tuple #[.agg #[.int .i64 c, .int .i64 m], .int .i64 er]) (by simp [results, Tryd.results15, go_sem, s0, s1]) rfl ⟨c, m, er, rfl, HE.out, E.2, .inr ⟨h1, h2, h3, E.1⟩⟩

set_option maxHeartbeats 3200000 in
set_option maxRecDepth 100000 in
theorem sdel (k : ByteArray) {Ls : List En} {w : World} {sb g tb : Nat} {nd ck : Int} {T : Tr En Tl} {n : Nat} (h : IsSt w sb g tb nd ck T n) (L : Lanes w) (hH : Hol T Ls) (hl : Ls.length ≤ 1000000) :
    Calls Tryd.prog 16 #[.pointer (some ⟨sb, 0, none⟩), .string k] w fun r w' => ∃ c m er, r = .returned (.tuple #[.agg #[.int .i64 c, .int .i64 m], .int .i64 er]) ∧ er = wrErr k ⟨#[]⟩ nd ck Ls ∧ Keeps (Of sb g tb) w w' ∧
      ((er ≠ 0 ∧ c = 0 ∧ m = 0 ∧ IsSt w' sb g tb nd ck T n) ∨ (er = 0 ∧ c = ck + 1 ∧ m = nd ∧ IsSt w' sb g tb nd (ck + 1) (Tr.put k (wrEn k ⟨#[]⟩ true nd ck) (tof (wrEn k ⟨#[]⟩ true nd ck)) T) (n + Tr.putC k (wrEn k ⟨#[]⟩ true nd ck) (tof (wrEn k ⟨#[]⟩ true nd ck)) T))) := by
  have B0 := aside (bnew w (.cells #[.int .i64 0, .int .i64 0] 37))
  have G0 := aside (heap_alloc_new w (.cells #[.int .i64 0, .int .i64 0] 37))
  have H := aside (h.alloc (.cells #[.int .i64 0, .int .i64 0] 37))
  have C := aside (swrite k ⟨#[]⟩ true H.out (L.keep B0.out) hH hl)
  clear h L hH hl
  go_enter Tryd.func16, Tryd.ntmps16
  go_wp2_with fail
  refine C.out.mono ?_
  rintro r w1 ⟨c, m, er, rfl, he, k1, hs⟩
  have HE := aside he
  have HS := aside hs
  have K1 := aside ((Keeps.of_below B0.out _).trans k1)
  have G1 := aside (blk_keep G0.out k1 (H.out.not G0.out (by decide) (by decide) (by decide)))
  clear he hs k1 C G0 B0 H
  obtain ⟨s0, s1, z0, z1⟩ := pair G1.out
  go_wp2
  rcases HS.out with ⟨h1, h2, h3, h4⟩ | ⟨h1, h2, h3, h4⟩
  · have E := ver_end (i := 0) h4 K1.out G1.out c m
    exact bodyPost_ret (v := .tuple #[.agg #[.int .i64 c, .int .i64 m], .int .i64 er]) (by simp [results, Tryd.results16, go_sem, s0, s1]) rfl ⟨c, m, er, rfl, HE.out, E.2, .inl ⟨h1, h2, h3, E.1⟩⟩
  · have E := ver_end (i := 0) h4 K1.out G1.out c m
    exact bodyPost_ret (v := .tuple #[.agg #[.int .i64 c, .int .i64 m], .int .i64 er]) (by simp [results, Tryd.results16, go_sem, s0, s1]) rfl ⟨c, m, er, rfl, HE.out, E.2, .inr ⟨h1, h2, h3, E.1⟩⟩

/-- What Take does: refused by a number, passed by, or taken. -/
def tkSay (e : En) (Ls : List En) : Int × Bool :=
  if e.chk ≠ 0 then (e.chk, false) else if roomB e.k Ls = false then (80, false) else
    match lookE e.k Ls with
    | none => (0, true)
    | some o => (0, En.newer e o)

theorem old_lay {w X : World} {sb g tb ob : Nat} {nd ck : Int} {T : Tr En Tl} {n : Nat} {cs : Array Value} {x0 x1 x2 x3 x4 : Value} {o : En} (h : IsSt X sb g tb nd ck T n) (b : Below w.heap.size w X) (L : Lanes X) (g0 : X.heap[w.heap.size]? = some (.cells cs 39 (0, 0))) (gv : X.heap[ob]? = some (.cells #[x0, x1, x2, x3, x4] 39 (0, 0))) (hv : w.heap.size < ob) :
    (fun Y : World => IsSt Y sb g tb nd ck T n ∧ Below w.heap.size w Y ∧ Lanes Y ∧ Y.heap[w.heap.size]? = some (.cells cs 39 (0, 0)) ∧ Y.heap[ob]? = some (.cells #[.string o.k, .int .i64 o.c, .int .i64 o.n, .string o.v, .bool o.d] 39 (0, 0))) (setE X ob o) := by
  have hn := h.not gv (by decide) (by decide) (by decide)
  have kk : Keeps (fun x => x = ob) X (setE X ob o) := (Keeps.refl (fun x => x = ob) X).setE (fun _ => rfl) o
  obtain ⟨p, ht, hT⟩ := h.tree
  refine ⟨⟨(setE_other _ _ _ _ (fun e => hn (.inl e.symm))).trans h.blk, fun b' e => (setE_other _ _ _ _ (fun e2 => hn (.inr (.inr (by cases e; exact e2.symm))))).trans (h.cnt b' e), ⟨p, (setE_other _ _ _ _ (fun e => hn (.inr (.inl e.symm)))).trans ht, hT.on ((Stay.refl _ X).keeps kk (fun i cs' hi e => by subst e; rw [gv] at hi; simp at hi))⟩⟩, ?_, L.keeps kk (fun e => ?_), (setE_other _ _ _ _ (by omega)).trans g0, setE_same gv o⟩
  · have k2 : Keeps (fun x => w.heap.size ≤ x) X (setE X ob o) := kk.mono (fun _ _ e => by subst e; omega)
    exact b.trans (k2.below b.size (fun k hk e => by omega))
  · have h3 := L.c5
    rw [show World.cell? X ⟨0, 5, none⟩ = none from by rw [← e] at gv; simp [World.cell?, gv]] at h3
    cases h3

set_option maxHeartbeats 3200000 in
set_option maxRecDepth 100000 in
theorem stake (e : En) {Ls : List En} {w : World} {sb g tb : Nat} {nd ck : Int} {T : Tr En Tl} {n : Nat} (h : IsSt w sb g tb nd ck T n) (L : Lanes w) (hH : Hol T Ls) (hl : Ls.length ≤ 1000000) :
    Calls Tryd.prog 17 #[.pointer (some ⟨sb, 0, none⟩), .agg #[.string e.k, .int .i64 e.c, .int .i64 e.n, .string e.v, .bool e.d]] w fun r w' => r = .returned (.tuple #[.bool (tkSay e Ls).2, .int .i64 (tkSay e Ls).1]) ∧ Keeps (Of sb g tb) w w' ∧
      (((tkSay e Ls).2 = false ∧ IsSt w' sb g tb nd ck T n) ∨ ((tkSay e Ls).2 = true ∧ IsSt w' sb g tb nd (ckm ck e.c) (Tr.put e.k e (tof e) T) (n + Tr.putC e.k e (tof e) T))) := by
  have B0 := aside (bnew w (.cells #[.string e.k, .int .i64 e.c, .int .i64 e.n, .string e.v, .bool e.d] 39))
  have G0 := aside (heap_alloc_new w (.cells #[.string e.k, .int .i64 e.c, .int .i64 e.n, .string e.v, .bool e.d] 39))
  have H := aside (h.alloc (.cells #[.string e.k, .int .i64 e.c, .int .i64 e.n, .string e.v, .bool e.d] 39))
  have LL := aside (L.keep B0.out)
  obtain ⟨q0, q1, q2, q3, q4, -⟩ := penta G0.out
  obtain ⟨c, hc⟩ : ∃ c, e.chk = c := ⟨_, rfl⟩
  have CK := aside (fun (W : World) => ichk_any e.k e.c e.n e.v e.d W)
  rw [show En.chk ⟨e.k, e.c, e.n, e.v, e.d⟩ = c from hc] at CK
  by_cases h0 : c = 0
  · subst h0
    have hkk : e.k.size ≤ 16 := by
      by_cases hx : (16 : Int) < e.k.size
      · unfold En.chk at hc; rw [if_pos hx] at hc; cases hc
      · omega
    have CR := aside (fun (W : World) (h : IsSt W sb g tb nd ck T n) => sroom e.k h hH hl)
    cases h3 : roomB e.k Ls
    · have ht : tkSay e Ls = (80, false) := by unfold tkSay; rw [if_neg (by rw [hc]; decide), if_pos h3]
      have HT := aside ht
      rw [h3] at CR
      clear h L hH hl hc h3 ht
      go_enter Tryd.func17, Tryd.ntmps17
      go_wp2_with fail
      refine (CK.out _).mono ?_
      rintro r w1 ⟨rfl, b1⟩
      have H1 := aside (H.out.below b1)
      have B1 := aside (bthen B0.out b1)
      obtain ⟨p0, -⟩ := penta (blk_on G0.out b1)
      clear b1 q0 q1 q2 q3 q4
      go_wp2_with fail
      refine (CR.out _ H1.out).mono ?_
      rintro r w2 ⟨rfl, b2⟩
      have H2 := aside (H1.out.below b2)
      have B2 := aside (bthen B1.out b2)
      clear b2
      have ht := HT.out
      go_wp2
      go_ret2
      exact ⟨by rw [ht]; rfl, Keeps.of_below B2.out _, .inl ⟨by rw [ht], H2.out⟩⟩
    · rw [h3] at CR
      have CH := aside (fun (W : World) (h : IsSt W sb g tb nd ck T n) (hL : Lanes W) => shold e h hL hH hl (by omega))
      cases hL : lookE e.k Ls with
      | none =>
        have HT := aside (show tkSay e Ls = (0, true) from by unfold tkSay; rw [if_neg (by rw [hc]; decide), if_neg (by rw [h3]; decide), hL])
        obtain ⟨o, ho⟩ : ∃ o, (lookE e.k Ls).getD eNone = o := ⟨_, rfl⟩
        have CG := aside (fun (W : World) (h : TreeE W tb (jvE g) T) => yget_at e.k h hH hl ho (show (lookE e.k Ls).isSome = false from by rw [hL]; rfl))
        clear h L hH hl hc h3 hL ho
        go_enter Tryd.func17, Tryd.ntmps17
        go_wp2_with fail
        refine (CK.out _).mono ?_
        rintro r w0 ⟨rfl, b0⟩
        have H0 := aside (H.out.below b0)
        have B0' := aside (bthen B0.out b0)
        have G00 := aside (blk_on G0.out b0)
        have L0 := aside (LL.out.keep b0)
        obtain ⟨p0, -⟩ := penta G00.out
        clear b0 q0 q1 q2 q3 q4
        go_wp2_with fail
        refine (CR.out _ H0.out).mono ?_
        rintro r w1 ⟨rfl, b1⟩
        have H1 := aside (H0.out.below b1)
        have B1 := aside (bthen B0'.out b1)
        have G01 := aside (blk_on G00.out b1)
        have L1 := aside (L0.out.keep b1)
        clear b1 p0 H0 B0' G00 L0 H B0 G0 LL CK CR
        go_wp2_with fail
        refine wp_region_held_drew (S := fun X => X.cell? ⟨sb, 3, none⟩ = some (.pointer (some ⟨tb, 0, none⟩)) ∧ X.cell? ⟨w.heap.size, 0, none⟩ = some (.string e.k) ∧ X.cell? ⟨w.heap.size, 1, none⟩ = some (.int .i64 e.c) ∧ X.cell? ⟨w.heap.size, 2, none⟩ = some (.int .i64 e.n) ∧ X.cell? ⟨w.heap.size, 3, none⟩ = some (.string e.v) ∧ X.cell? ⟨w.heap.size, 4, none⟩ = some (.bool e.d)) (by kernel_rfl) (held_hold H1.out.drew G01.out) (fun hHeld => ?_)
        refine wpAnyH_take (i := 0) (v := ?_) rfl (by kernel_rfl) (by kernel_rfl) (by kernel_rfl) (fun _ _ _ h => h) (Or.inl ⟨by rfl, ?_⟩) (by assumption) ?_
        rotate_left
        · intro w hSw
          go_simp
          try with_reducible rfl
        simp only [Act.put, List.getElem_toArray, List.getElem_cons_zero, List.setIfInBounds_toArray, List.set_cons_zero, List.set_cons_succ]
        refine wpAnyH_take (i := 1) (v := ?_) rfl (by kernel_rfl) (by kernel_rfl) (by kernel_rfl) (fun _ _ _ h => h) (Or.inl ⟨by rfl, ?_⟩) (by assumption) ?_
        rotate_left
        · intro w hSw
          go_simp
          try with_reducible rfl
        simp only [Act.put, List.getElem_toArray, List.getElem_cons_zero, List.getElem_cons_succ, List.setIfInBounds_toArray, List.set_cons_zero, List.set_cons_succ]
        refine wpAnyH_take (i := 2) (v := ?_) rfl (by kernel_rfl) (by kernel_rfl) (by kernel_rfl) (fun _ _ _ h => h) (Or.inl ⟨by rfl, ?_⟩) (by assumption) ?_
        rotate_left
        · intro w hSw
          go_simp
          try with_reducible rfl
        simp only [Act.put, List.getElem_toArray, List.getElem_cons_zero, List.getElem_cons_succ, List.setIfInBounds_toArray, List.set_cons_zero, List.set_cons_succ]
        refine wpAnyH_take (i := 3) (v := ?_) rfl (by kernel_rfl) (by kernel_rfl) (by kernel_rfl) (fun _ _ _ h => h) (Or.inl ⟨by rfl, ?_⟩) (by assumption) ?_
        rotate_left
        · intro w hSw
          go_simp
          try with_reducible rfl
        simp only [Act.put, List.getElem_toArray, List.getElem_cons_zero, List.getElem_cons_succ, List.setIfInBounds_toArray, List.set_cons_zero, List.set_cons_succ]
        refine wpAnyH_take (i := 4) (v := ?_) rfl (by kernel_rfl) (by kernel_rfl) (by kernel_rfl) (fun _ _ _ h => h) (Or.inl ⟨by rfl, ?_⟩) (by assumption) ?_
        rotate_left
        · intro w hSw
          go_simp
          try with_reducible rfl
        simp only [Act.put, List.getElem_toArray, List.getElem_cons_zero, List.getElem_cons_succ, List.setIfInBounds_toArray, List.set_cons_zero, List.set_cons_succ]
        refine wpAnyH_take (i := 5) (v := ?_) rfl (by kernel_rfl) (by kernel_rfl) (by kernel_rfl) (fun _ _ _ h => h) (Or.inl ⟨by rfl, ?_⟩) (by assumption) ?_
        rotate_left
        · intro w hSw
          go_simp
          try with_reducible rfl
        simp only [Act.put, List.getElem_toArray, List.getElem_cons_zero, List.getElem_cons_succ, List.setIfInBounds_toArray, List.set_cons_zero, List.set_cons_succ]
        refine wpAnyH_ready (rs := [6, 10]) (by kernel_rfl) (by simp) ?_
        refine AllReadyH.cons rfl (fun K hK => ?_) (AllReadyH.cons rfl (fun K hK => ?_) AllReadyH.nil)
        · go_simp
          refine (CG.out _ H1.out.drew.tree).mono ?_
          rintro r w9 ⟨rfl, bb⟩
          have HX := aside (H1.out.drew.below bb)
          have G0X := aside (blk_on (show w1.drew.heap[w.heap.size]? = some _ from G01.out) bb)
          refine hK.out _ _ (held_hold HX.out G0X.out) (fun hHeld => ?_)
          clear hK K
          have H2 := aside (HX.out.alloc (.cells #[.string o.k, .int .i64 o.c, .int .i64 o.n, .string o.v, .bool o.d] 39))
          have B2 := aside (bthen (bthen B1.out.drew bb) (bnew _ (.cells #[.string o.k, .int .i64 o.c, .int .i64 o.n, .string o.v, .bool o.d] 39)))
          have G02 := aside (blk_on G0X.out (bnew _ (.cells #[.string o.k, .int .i64 o.c, .int .i64 o.n, .string o.v, .bool o.d] 39)))
          have L2 := aside ((L1.out.drew.keep bb).keep (bnew _ (.cells #[.string o.k, .int .i64 o.c, .int .i64 o.n, .string o.v, .bool o.d] 39)))
          have GO := aside (heap_alloc_new w9 (.cells #[.string o.k, .int .i64 o.c, .int .i64 o.n, .string o.v, .bool o.d] 39))
          clear bb
          refine wpAnyH_take (i := 7) (v := ?_) rfl (by kernel_rfl) (by kernel_rfl) (by kernel_rfl) (fun _ _ _ h => h) (Or.inl ⟨by rfl, ?_⟩) (by assumption) ?_
          rotate_left
          · intro w hSw
            go_simp
            try with_reducible rfl
          simp only [Act.put, List.getElem_toArray, List.getElem_cons_zero, List.getElem_cons_succ, List.setIfInBounds_toArray, List.set_cons_zero, List.set_cons_succ]
          refine wpAnyH_take (i := 8) (v := ?_) rfl (by kernel_rfl) (by kernel_rfl) (by kernel_rfl) (fun _ _ _ h => h) (Or.inl ⟨by rfl, ?_⟩) (by assumption) ?_
          rotate_left
          · intro w hSw
            go_simp
            try with_reducible rfl
          simp only [Act.put, List.getElem_toArray, List.getElem_cons_zero, List.getElem_cons_succ, List.setIfInBounds_toArray, List.set_cons_zero, List.set_cons_succ]
          refine wpAnyH_take (i := 9) (v := ?_) rfl (by kernel_rfl) (by kernel_rfl) (by kernel_rfl) (fun _ _ _ h => h) (Or.inl ⟨by rfl, ?_⟩) (by assumption) ?_
          rotate_left
          · intro w hSw
            go_simp
            try with_reducible rfl
          simp only [Act.put, List.getElem_toArray, List.getElem_cons_zero, List.getElem_cons_succ, List.setIfInBounds_toArray, List.set_cons_zero, List.set_cons_succ]
          refine wpAnyH_ready (rs := [10]) (by kernel_rfl) (by simp) ?_
          refine AllReadyH.cons rfl (fun K hK => ?_) AllReadyH.nil
          go_simp
          refine hK.out _ _ (held_hold (HX.out.alloc _) (blk_on G0X.out (bnew _ _))) (fun hHeld => ?_)
          clear hK K 
          refine wpAnyH_ready (rs := [11]) (by kernel_rfl) (by simp) ?_
          refine AllReadyH.cons rfl (fun K hK => ?_) AllReadyH.nil
          go_simp
          refine hK.out _ _ (held_hold (HX.out.alloc _) (blk_on G0X.out (bnew _ _))) (fun hHeld => ?_)
          clear hK K 
          refine wpAnyH_take (i := 12) (v := ?_) rfl (by kernel_rfl) (by kernel_rfl) (by kernel_rfl) (fun _ _ _ h => h) (Or.inl ⟨by rfl, ?_⟩) (by assumption) ?_
          rotate_left
          · intro w hSw
            go_simp
            try with_reducible rfl
          simp only [Act.put, List.getElem_toArray, List.getElem_cons_zero, List.getElem_cons_succ, List.setIfInBounds_toArray, List.set_cons_zero, List.set_cons_succ]
          refine wpAnyH_done (by kernel_rfl) ?_ _
          clear hHeld HX G0X H1 B1 G01 L1 CG
          generalize w9.alloc (.cells #[.string o.k, .int .i64 o.c, .int .i64 o.n, .string o.v, .bool o.d] 39) = X at *
          generalize w9.heap.size = ob at *
          obtain ⟨q0, q1, q2, q3, q4, -⟩ := penta G02.out
          obtain ⟨o0, o1, o2, o3, o4, -⟩ := penta GO.out
          have ht := HT.out
          go_wp2_with fail
          refine (CH.out _ H2.out L2.out).mono ?_
          rintro r w5 ⟨rfl, h5, k5⟩
          have H5 := aside h5
          have K5 := aside ((Keeps.of_below B2.out _).trans k5)
          clear h5 k5 q0 q1 q2 q3 q4 o0 o1 o2 o3 o4
          go_wp2
          go_ret2
          exact ⟨by rw [ht]; rfl, K5.out, .inr ⟨by rw [ht], H5.out⟩⟩
        · go_simp
          refine hK.out _ _ (held_hold (H1.out.alloc _).drew (show (w1.alloc (.cells #[.string ⟨#[]⟩, .int .i64 0, .int .i64 0, .string ⟨#[]⟩, .bool false] 39)).drew.heap[w.heap.size]? = some _ from blk_on G01.out (bnew _ _).drew)) (fun hHeld => ?_)
          clear hK K
          have HX := aside (H1.out.alloc (.cells #[.string ⟨#[]⟩, .int .i64 0, .int .i64 0, .string ⟨#[]⟩, .bool false] 39)).drew
          have GX := aside (show (w1.alloc (.cells #[.string ⟨#[]⟩, .int .i64 0, .int .i64 0, .string ⟨#[]⟩, .bool false] 39)).drew.heap[w1.heap.size]? = some (.cells #[.string ⟨#[]⟩, .int .i64 0, .int .i64 0, .string ⟨#[]⟩, .bool false] 39 (0, 0)) from heap_alloc_new w1 _)
          have BX := aside (bthen B1.out (bnew _ (.cells #[.string ⟨#[]⟩, .int .i64 0, .int .i64 0, .string ⟨#[]⟩, .bool false] 39))).drew
          have G0X := aside (show (w1.alloc (.cells #[.string ⟨#[]⟩, .int .i64 0, .int .i64 0, .string ⟨#[]⟩, .bool false] 39)).drew.heap[w.heap.size]? = some _ from blk_on G01.out (bnew _ _).drew)
          have LX := aside (L1.out.keep (bnew _ (.cells #[.string ⟨#[]⟩, .int .i64 0, .int .i64 0, .string ⟨#[]⟩, .bool false] 39))).drew
          have HV := aside (show w.heap.size < w1.heap.size from lt_of_blk G01.out)
          clear H1 B1 G01 L1
          generalize w1.heap.size = ob at *
          refine wpAnyH_ready (rs := [6]) (by kernel_rfl) (by simp) ?_
          refine AllReadyH.cons rfl (fun K hK => ?_) AllReadyH.nil
          go_simp
          refine (CG.out _ HX.out.tree).mono ?_
          rintro e w9 ⟨rfl, bb⟩
          refine hK.out _ _ (held_hold (HX.out.below bb) (blk_on G0X.out bb)) (fun hHeld => ?_)
          clear hK K 
          have HY := aside (HX.out.below bb)
          have GY := aside (blk_on GX.out bb)
          have BY := aside (BX.out.trans (bb.mono BX.out.size))
          have G0Y := aside (blk_on G0X.out bb)
          have LY := aside (LX.out.keep bb)
          clear bb
          refine wpAnyH_take (i := 7) (v := ?_) rfl (by kernel_rfl) (by kernel_rfl) (by kernel_rfl) (fun _ _ _ h => h) (Or.inl ⟨by rfl, ?_⟩) (by assumption) ?_
          rotate_left
          · intro w hSw
            go_simp
            try with_reducible rfl
          simp only [Act.put, List.getElem_toArray, List.getElem_cons_zero, List.getElem_cons_succ, List.setIfInBounds_toArray, List.set_cons_zero, List.set_cons_succ]
          refine wpAnyH_take (i := 8) (v := ?_) rfl (by kernel_rfl) (by kernel_rfl) (by kernel_rfl) (fun _ _ _ h => h) (Or.inl ⟨by rfl, ?_⟩) (by assumption) ?_
          rotate_left
          · intro w hSw
            go_simp
            try with_reducible rfl
          simp only [Act.put, List.getElem_toArray, List.getElem_cons_zero, List.getElem_cons_succ, List.setIfInBounds_toArray, List.set_cons_zero, List.set_cons_succ]
          refine wpAnyH_take (i := 9) (v := ?_) rfl (by kernel_rfl) (by kernel_rfl) (by kernel_rfl) (fun _ _ _ h => h) (Or.inl ⟨by rfl, ?_⟩) (by assumption) ?_
          rotate_left
          · intro w hSw
            go_simp
            try with_reducible rfl
          simp only [Act.put, List.getElem_toArray, List.getElem_cons_zero, List.getElem_cons_succ, List.setIfInBounds_toArray, List.set_cons_zero, List.set_cons_succ]
          obtain ⟨u0, u1, u2, u3, u4, z0, z1, z2, z3, z4⟩ := penta GY.out
          have E9 := aside (old_lay (o := o) HY.out BY.out LY.out G0Y.out GY.out HV.out)
          unfold setE at E9
          refine wpAnyH_ready (rs := [11]) (by kernel_rfl) (by simp) ?_
          refine AllReadyH.cons rfl (fun K hK => ?_) AllReadyH.nil
          go_simp
          refine hK.out _ _ (held_hold E9.out.1 E9.out.2.2.2.1) (fun hHeld => ?_)
          clear hK K 
          refine wpAnyH_take (i := 12) (v := ?_) rfl (by kernel_rfl) (by kernel_rfl) (by kernel_rfl) (fun _ _ _ h => h) (Or.inl ⟨by rfl, ?_⟩) (by assumption) ?_
          rotate_left
          · intro w hSw
            go_simp
            try with_reducible rfl
          simp only [Act.put, List.getElem_toArray, List.getElem_cons_zero, List.getElem_cons_succ, List.setIfInBounds_toArray, List.set_cons_zero, List.set_cons_succ]
          refine wpAnyH_done (by kernel_rfl) ?_ _
          clear hHeld u0 u1 u2 u3 u4 z0 z1 z2 z3 z4 HX GX BX G0X LX HY GY BY G0Y LY CG
          generalize ((((w9.setCell ⟨ob, 0, none⟩ (.string o.k)).setCell ⟨ob, 1, none⟩ (.int .i64 o.c)).setCell ⟨ob, 2, none⟩ (.int .i64 o.n)).setCell ⟨ob, 3, none⟩ (.string o.v)).setCell ⟨ob, 4, none⟩ (.bool o.d) = X at *
          obtain ⟨H2', B2', L2', G02', GO'⟩ := E9.out
          have H2 := aside H2'
          have B2 := aside B2'
          have L2 := aside L2'
          have G02 := aside G02'
          have GO := aside GO'
          clear H2' B2' L2' G02' GO' E9
          obtain ⟨q0, q1, q2, q3, q4, -⟩ := penta G02.out
          obtain ⟨o0, o1, o2, o3, o4, -⟩ := penta GO.out
          have ht := HT.out
          go_wp2_with fail
          refine (CH.out _ H2.out L2.out).mono ?_
          rintro r w5 ⟨rfl, h5, k5⟩
          have H5 := aside h5
          have K5 := aside ((Keeps.of_below B2.out _).trans k5)
          clear h5 k5 q0 q1 q2 q3 q4 o0 o1 o2 o3 o4
          go_wp2
          go_ret2
          exact ⟨by rw [ht]; rfl, K5.out, .inr ⟨by rw [ht], H5.out⟩⟩

      | some o =>
        obtain ⟨nw, hnw⟩ : ∃ nw, En.newer e o = nw := ⟨_, rfl⟩
        have HT := aside (show tkSay e Ls = (0, nw) from by unfold tkSay; rw [if_neg (by rw [hc]; decide), if_neg (by rw [h3]; decide), hL]; simp only [hnw])
        have CG := aside (fun (W : World) (h : TreeE W tb (jvE g) T) => yget_at (o := o) e.k h hH hl (by rw [hL]; rfl) (show (lookE e.k Ls).isSome = true from by rw [hL]; rfl))
        have CW := aside (fun (W : World) => newer_any e.k e.c e.n e.v e.d o.k o.c o.n o.v o.d nw W hnw)
        clear h L hH hl hc h3 hL hnw
        go_enter Tryd.func17, Tryd.ntmps17
        go_wp2_with fail
        refine (CK.out _).mono ?_
        rintro r w0 ⟨rfl, b0⟩
        have H0 := aside (H.out.below b0)
        have B0' := aside (bthen B0.out b0)
        have G00 := aside (blk_on G0.out b0)
        have L0 := aside (LL.out.keep b0)
        obtain ⟨p0, -⟩ := penta G00.out
        clear b0 q0 q1 q2 q3 q4
        go_wp2_with fail
        refine (CR.out _ H0.out).mono ?_
        rintro r w1 ⟨rfl, b1⟩
        have H1 := aside (H0.out.below b1)
        have B1 := aside (bthen B0'.out b1)
        have G01 := aside (blk_on G00.out b1)
        have L1 := aside (L0.out.keep b1)
        clear b1 p0 H0 B0' G00 L0 H B0 G0 LL CK CR
        go_wp2_with fail
        refine wp_region_held_drew (S := fun X => X.cell? ⟨sb, 3, none⟩ = some (.pointer (some ⟨tb, 0, none⟩)) ∧ X.cell? ⟨w.heap.size, 0, none⟩ = some (.string e.k) ∧ X.cell? ⟨w.heap.size, 1, none⟩ = some (.int .i64 e.c) ∧ X.cell? ⟨w.heap.size, 2, none⟩ = some (.int .i64 e.n) ∧ X.cell? ⟨w.heap.size, 3, none⟩ = some (.string e.v) ∧ X.cell? ⟨w.heap.size, 4, none⟩ = some (.bool e.d)) (by kernel_rfl) (held_hold H1.out.drew G01.out) (fun hHeld => ?_)
        refine wpAnyH_take (i := 0) (v := ?_) rfl (by kernel_rfl) (by kernel_rfl) (by kernel_rfl) (fun _ _ _ h => h) (Or.inl ⟨by rfl, ?_⟩) (by assumption) ?_
        rotate_left
        · intro w hSw
          go_simp
          try with_reducible rfl
        simp only [Act.put, List.getElem_toArray, List.getElem_cons_zero, List.setIfInBounds_toArray, List.set_cons_zero, List.set_cons_succ]
        refine wpAnyH_take (i := 1) (v := ?_) rfl (by kernel_rfl) (by kernel_rfl) (by kernel_rfl) (fun _ _ _ h => h) (Or.inl ⟨by rfl, ?_⟩) (by assumption) ?_
        rotate_left
        · intro w hSw
          go_simp
          try with_reducible rfl
        simp only [Act.put, List.getElem_toArray, List.getElem_cons_zero, List.getElem_cons_succ, List.setIfInBounds_toArray, List.set_cons_zero, List.set_cons_succ]
        refine wpAnyH_take (i := 2) (v := ?_) rfl (by kernel_rfl) (by kernel_rfl) (by kernel_rfl) (fun _ _ _ h => h) (Or.inl ⟨by rfl, ?_⟩) (by assumption) ?_
        rotate_left
        · intro w hSw
          go_simp
          try with_reducible rfl
        simp only [Act.put, List.getElem_toArray, List.getElem_cons_zero, List.getElem_cons_succ, List.setIfInBounds_toArray, List.set_cons_zero, List.set_cons_succ]
        refine wpAnyH_take (i := 3) (v := ?_) rfl (by kernel_rfl) (by kernel_rfl) (by kernel_rfl) (fun _ _ _ h => h) (Or.inl ⟨by rfl, ?_⟩) (by assumption) ?_
        rotate_left
        · intro w hSw
          go_simp
          try with_reducible rfl
        simp only [Act.put, List.getElem_toArray, List.getElem_cons_zero, List.getElem_cons_succ, List.setIfInBounds_toArray, List.set_cons_zero, List.set_cons_succ]
        refine wpAnyH_take (i := 4) (v := ?_) rfl (by kernel_rfl) (by kernel_rfl) (by kernel_rfl) (fun _ _ _ h => h) (Or.inl ⟨by rfl, ?_⟩) (by assumption) ?_
        rotate_left
        · intro w hSw
          go_simp
          try with_reducible rfl
        simp only [Act.put, List.getElem_toArray, List.getElem_cons_zero, List.getElem_cons_succ, List.setIfInBounds_toArray, List.set_cons_zero, List.set_cons_succ]
        refine wpAnyH_take (i := 5) (v := ?_) rfl (by kernel_rfl) (by kernel_rfl) (by kernel_rfl) (fun _ _ _ h => h) (Or.inl ⟨by rfl, ?_⟩) (by assumption) ?_
        rotate_left
        · intro w hSw
          go_simp
          try with_reducible rfl
        simp only [Act.put, List.getElem_toArray, List.getElem_cons_zero, List.getElem_cons_succ, List.setIfInBounds_toArray, List.set_cons_zero, List.set_cons_succ]
        refine wpAnyH_ready (rs := [6, 10]) (by kernel_rfl) (by simp) ?_
        refine AllReadyH.cons rfl (fun K hK => ?_) (AllReadyH.cons rfl (fun K hK => ?_) AllReadyH.nil)
        · go_simp
          refine (CG.out _ H1.out.drew.tree).mono ?_
          rintro r w9 ⟨rfl, bb⟩
          have HX := aside (H1.out.drew.below bb)
          have G0X := aside (blk_on (show w1.drew.heap[w.heap.size]? = some _ from G01.out) bb)
          refine hK.out _ _ (held_hold HX.out G0X.out) (fun hHeld => ?_)
          clear hK K
          have H2 := aside (HX.out.alloc (.cells #[.string o.k, .int .i64 o.c, .int .i64 o.n, .string o.v, .bool o.d] 39))
          have B2 := aside (bthen (bthen B1.out.drew bb) (bnew _ (.cells #[.string o.k, .int .i64 o.c, .int .i64 o.n, .string o.v, .bool o.d] 39)))
          have G02 := aside (blk_on G0X.out (bnew _ (.cells #[.string o.k, .int .i64 o.c, .int .i64 o.n, .string o.v, .bool o.d] 39)))
          have L2 := aside ((L1.out.drew.keep bb).keep (bnew _ (.cells #[.string o.k, .int .i64 o.c, .int .i64 o.n, .string o.v, .bool o.d] 39)))
          have GO := aside (heap_alloc_new w9 (.cells #[.string o.k, .int .i64 o.c, .int .i64 o.n, .string o.v, .bool o.d] 39))
          clear bb
          refine wpAnyH_take (i := 7) (v := ?_) rfl (by kernel_rfl) (by kernel_rfl) (by kernel_rfl) (fun _ _ _ h => h) (Or.inl ⟨by rfl, ?_⟩) (by assumption) ?_
          rotate_left
          · intro w hSw
            go_simp
            try with_reducible rfl
          simp only [Act.put, List.getElem_toArray, List.getElem_cons_zero, List.getElem_cons_succ, List.setIfInBounds_toArray, List.set_cons_zero, List.set_cons_succ]
          refine wpAnyH_take (i := 8) (v := ?_) rfl (by kernel_rfl) (by kernel_rfl) (by kernel_rfl) (fun _ _ _ h => h) (Or.inl ⟨by rfl, ?_⟩) (by assumption) ?_
          rotate_left
          · intro w hSw
            go_simp
            try with_reducible rfl
          simp only [Act.put, List.getElem_toArray, List.getElem_cons_zero, List.getElem_cons_succ, List.setIfInBounds_toArray, List.set_cons_zero, List.set_cons_succ]
          refine wpAnyH_take (i := 9) (v := ?_) rfl (by kernel_rfl) (by kernel_rfl) (by kernel_rfl) (fun _ _ _ h => h) (Or.inl ⟨by rfl, ?_⟩) (by assumption) ?_
          rotate_left
          · intro w hSw
            go_simp
            try with_reducible rfl
          simp only [Act.put, List.getElem_toArray, List.getElem_cons_zero, List.getElem_cons_succ, List.setIfInBounds_toArray, List.set_cons_zero, List.set_cons_succ]
          refine wpAnyH_ready (rs := [10]) (by kernel_rfl) (by simp) ?_
          refine AllReadyH.cons rfl (fun K hK => ?_) AllReadyH.nil
          go_simp
          refine hK.out _ _ (held_hold (HX.out.alloc _) (blk_on G0X.out (bnew _ _))) (fun hHeld => ?_)
          clear hK K 
          refine wpAnyH_ready (rs := [11]) (by kernel_rfl) (by simp) ?_
          refine AllReadyH.cons rfl (fun K hK => ?_) AllReadyH.nil
          go_simp
          refine hK.out _ _ (held_hold (HX.out.alloc _) (blk_on G0X.out (bnew _ _))) (fun hHeld => ?_)
          clear hK K 
          refine wpAnyH_take (i := 12) (v := ?_) rfl (by kernel_rfl) (by kernel_rfl) (by kernel_rfl) (fun _ _ _ h => h) (Or.inl ⟨by rfl, ?_⟩) (by assumption) ?_
          rotate_left
          · intro w hSw
            go_simp
            try with_reducible rfl
          simp only [Act.put, List.getElem_toArray, List.getElem_cons_zero, List.getElem_cons_succ, List.setIfInBounds_toArray, List.set_cons_zero, List.set_cons_succ]
          refine wpAnyH_done (by kernel_rfl) ?_ _
          clear hHeld HX G0X H1 B1 G01 L1 CG
          generalize w9.alloc (.cells #[.string o.k, .int .i64 o.c, .int .i64 o.n, .string o.v, .bool o.d] 39) = X at *
          generalize w9.heap.size = ob at *
          obtain ⟨q0, q1, q2, q3, q4, -⟩ := penta G02.out
          obtain ⟨o0, o1, o2, o3, o4, -⟩ := penta GO.out
          go_wp2_with fail
          refine (CW.out _).mono ?_
          rintro r w4 ⟨rfl, b4⟩
          have H4 := aside (H2.out.below b4)
          have B4 := aside (bthen B2.out b4)
          have L4 := aside (L2.out.keep b4)
          obtain ⟨p0, p1, p2, p3, p4, -⟩ := penta (blk_on G02.out b4)
          clear b4 q0 q1 q2 q3 q4 o0 o1 o2 o3 o4
          cases nw with
          | false =>
            have ht := HT.out
            go_wp2
            go_ret2
            exact ⟨by rw [ht]; rfl, Keeps.of_below B4.out _, .inl ⟨by rw [ht], H4.out⟩⟩
          | true =>
            have ht := HT.out
            go_wp2_with fail
            refine (CH.out _ H4.out L4.out).mono ?_
            rintro r w5 ⟨rfl, h5, k5⟩
            have H5 := aside h5
            have K5 := aside ((Keeps.of_below B4.out _).trans k5)
            clear h5 k5
            go_wp2
            go_ret2
            exact ⟨by rw [ht]; rfl, K5.out, .inr ⟨by rw [ht], H5.out⟩⟩
        · go_simp
          refine hK.out _ _ (held_hold (H1.out.alloc _).drew (show (w1.alloc (.cells #[.string ⟨#[]⟩, .int .i64 0, .int .i64 0, .string ⟨#[]⟩, .bool false] 39)).drew.heap[w.heap.size]? = some _ from blk_on G01.out (bnew _ _).drew)) (fun hHeld => ?_)
          clear hK K
          have HX := aside (H1.out.alloc (.cells #[.string ⟨#[]⟩, .int .i64 0, .int .i64 0, .string ⟨#[]⟩, .bool false] 39)).drew
          have GX := aside (show (w1.alloc (.cells #[.string ⟨#[]⟩, .int .i64 0, .int .i64 0, .string ⟨#[]⟩, .bool false] 39)).drew.heap[w1.heap.size]? = some (.cells #[.string ⟨#[]⟩, .int .i64 0, .int .i64 0, .string ⟨#[]⟩, .bool false] 39 (0, 0)) from heap_alloc_new w1 _)
          have BX := aside (bthen B1.out (bnew _ (.cells #[.string ⟨#[]⟩, .int .i64 0, .int .i64 0, .string ⟨#[]⟩, .bool false] 39))).drew
          have G0X := aside (show (w1.alloc (.cells #[.string ⟨#[]⟩, .int .i64 0, .int .i64 0, .string ⟨#[]⟩, .bool false] 39)).drew.heap[w.heap.size]? = some _ from blk_on G01.out (bnew _ _).drew)
          have LX := aside (L1.out.keep (bnew _ (.cells #[.string ⟨#[]⟩, .int .i64 0, .int .i64 0, .string ⟨#[]⟩, .bool false] 39))).drew
          have HV := aside (show w.heap.size < w1.heap.size from lt_of_blk G01.out)
          clear H1 B1 G01 L1
          generalize w1.heap.size = ob at *
          refine wpAnyH_ready (rs := [6]) (by kernel_rfl) (by simp) ?_
          refine AllReadyH.cons rfl (fun K hK => ?_) AllReadyH.nil
          go_simp
          refine (CG.out _ HX.out.tree).mono ?_
          rintro e w9 ⟨rfl, bb⟩
          refine hK.out _ _ (held_hold (HX.out.below bb) (blk_on G0X.out bb)) (fun hHeld => ?_)
          clear hK K 
          have HY := aside (HX.out.below bb)
          have GY := aside (blk_on GX.out bb)
          have BY := aside (BX.out.trans (bb.mono BX.out.size))
          have G0Y := aside (blk_on G0X.out bb)
          have LY := aside (LX.out.keep bb)
          clear bb
          refine wpAnyH_take (i := 7) (v := ?_) rfl (by kernel_rfl) (by kernel_rfl) (by kernel_rfl) (fun _ _ _ h => h) (Or.inl ⟨by rfl, ?_⟩) (by assumption) ?_
          rotate_left
          · intro w hSw
            go_simp
            try with_reducible rfl
          simp only [Act.put, List.getElem_toArray, List.getElem_cons_zero, List.getElem_cons_succ, List.setIfInBounds_toArray, List.set_cons_zero, List.set_cons_succ]
          refine wpAnyH_take (i := 8) (v := ?_) rfl (by kernel_rfl) (by kernel_rfl) (by kernel_rfl) (fun _ _ _ h => h) (Or.inl ⟨by rfl, ?_⟩) (by assumption) ?_
          rotate_left
          · intro w hSw
            go_simp
            try with_reducible rfl
          simp only [Act.put, List.getElem_toArray, List.getElem_cons_zero, List.getElem_cons_succ, List.setIfInBounds_toArray, List.set_cons_zero, List.set_cons_succ]
          refine wpAnyH_take (i := 9) (v := ?_) rfl (by kernel_rfl) (by kernel_rfl) (by kernel_rfl) (fun _ _ _ h => h) (Or.inl ⟨by rfl, ?_⟩) (by assumption) ?_
          rotate_left
          · intro w hSw
            go_simp
            try with_reducible rfl
          simp only [Act.put, List.getElem_toArray, List.getElem_cons_zero, List.getElem_cons_succ, List.setIfInBounds_toArray, List.set_cons_zero, List.set_cons_succ]
          obtain ⟨u0, u1, u2, u3, u4, z0, z1, z2, z3, z4⟩ := penta GY.out
          have E9 := aside (old_lay (o := o) HY.out BY.out LY.out G0Y.out GY.out HV.out)
          unfold setE at E9
          refine wpAnyH_ready (rs := [11]) (by kernel_rfl) (by simp) ?_
          refine AllReadyH.cons rfl (fun K hK => ?_) AllReadyH.nil
          go_simp
          refine hK.out _ _ (held_hold E9.out.1 E9.out.2.2.2.1) (fun hHeld => ?_)
          clear hK K 
          refine wpAnyH_take (i := 12) (v := ?_) rfl (by kernel_rfl) (by kernel_rfl) (by kernel_rfl) (fun _ _ _ h => h) (Or.inl ⟨by rfl, ?_⟩) (by assumption) ?_
          rotate_left
          · intro w hSw
            go_simp
            try with_reducible rfl
          simp only [Act.put, List.getElem_toArray, List.getElem_cons_zero, List.getElem_cons_succ, List.setIfInBounds_toArray, List.set_cons_zero, List.set_cons_succ]
          refine wpAnyH_done (by kernel_rfl) ?_ _
          clear hHeld u0 u1 u2 u3 u4 z0 z1 z2 z3 z4 HX GX BX G0X LX HY GY BY G0Y LY CG
          generalize ((((w9.setCell ⟨ob, 0, none⟩ (.string o.k)).setCell ⟨ob, 1, none⟩ (.int .i64 o.c)).setCell ⟨ob, 2, none⟩ (.int .i64 o.n)).setCell ⟨ob, 3, none⟩ (.string o.v)).setCell ⟨ob, 4, none⟩ (.bool o.d) = X at *
          obtain ⟨H2', B2', L2', G02', GO'⟩ := E9.out
          have H2 := aside H2'
          have B2 := aside B2'
          have L2 := aside L2'
          have G02 := aside G02'
          have GO := aside GO'
          clear H2' B2' L2' G02' GO' E9
          obtain ⟨q0, q1, q2, q3, q4, -⟩ := penta G02.out
          obtain ⟨o0, o1, o2, o3, o4, -⟩ := penta GO.out
          go_wp2_with fail
          refine (CW.out _).mono ?_
          rintro r w4 ⟨rfl, b4⟩
          have H4 := aside (H2.out.below b4)
          have B4 := aside (bthen B2.out b4)
          have L4 := aside (L2.out.keep b4)
          obtain ⟨p0, p1, p2, p3, p4, -⟩ := penta (blk_on G02.out b4)
          clear b4 q0 q1 q2 q3 q4 o0 o1 o2 o3 o4
          cases nw with
          | false =>
            have ht := HT.out
            go_wp2
            go_ret2
            exact ⟨by rw [ht]; rfl, Keeps.of_below B4.out _, .inl ⟨by rw [ht], H4.out⟩⟩
          | true =>
            have ht := HT.out
            go_wp2_with fail
            refine (CH.out _ H4.out L4.out).mono ?_
            rintro r w5 ⟨rfl, h5, k5⟩
            have H5 := aside h5
            have K5 := aside ((Keeps.of_below B4.out _).trans k5)
            clear h5 k5
            go_wp2
            go_ret2
            exact ⟨by rw [ht]; rfl, K5.out, .inr ⟨by rw [ht], H5.out⟩⟩

  · have ht : tkSay e Ls = (c, false) := by unfold tkSay; rw [if_pos (by rw [hc]; exact h0), hc]
    have h0' : (c == 0) = false := beq_eq_false_iff_ne.2 h0
    have HT := aside ht
    clear h L hH hl hc h0 ht
    go_enter Tryd.func17, Tryd.ntmps17
    go_wp2_with fail
    refine (CK.out _).mono ?_
    rintro r w1 ⟨rfl, b1⟩
    have H1 := aside (H.out.below b1)
    have B1 := aside (bthen B0.out b1)
    clear b1 q0 q1 q2 q3 q4
    have ht := HT.out
    go_wp2
    go_ret2
    exact ⟨by rw [ht]; rfl, Keeps.of_below B1.out _, .inl ⟨by rw [ht], H1.out⟩⟩

end Go.Proofs.YtlgcdcjhflihiaaDoor
namespace Go.Proofs.YtlgcdcjhflihiaaDoor
open Go.RowKit
set_option linter.unusedVariables false

theorem nwr_iff (a b : En) : En.newer a b = true ↔ b.c < a.c ∨ (b.c = a.c ∧ b.n < a.n) := by
  unfold En.newer Vs.cmp Vs.c2
  simp only [decide_eq_true_eq]
  split
  · omega
  · split
    · omega
    · split
      · omega
      · split <;> omega

theorem nwr_not (a b : En) : En.newer a b = false ↔ ¬ (b.c < a.c ∨ (b.c = a.c ∧ b.n < a.n)) := by
  rw [← nwr_iff]; simp

theorem rises_insE (e : En) {l : List En} (h : RisesE l) : RisesE (insE e l) :=
  rises_of_map (by rw [← ins_map]; exact rises_ins _ (rises_map h))

theorem insE_len1 (e : En) : ∀ l : List En, (insE e l).length ≤ l.length + 1
  | [] => by simp [insE]
  | y :: l => by
    have ih := insE_len1 e l
    unfold insE
    split
    · simp
    · split
      · simp only [List.length_cons]; omega
      · simp

theorem insE_len0 (e : En) : ∀ l : List En, RisesE l → (∃ y ∈ l, y.k = e.k) → (insE e l).length = l.length
  | [], _, ⟨y, hy, _⟩ => by simp at hy
  | z :: l, h, ⟨y, hy, hk⟩ => by
    unfold RisesE at h
    rw [List.pairwise_cons] at h
    unfold insE
    split
    · rename_i h1
      exfalso
      rcases List.mem_cons.1 hy with rfl | hy
      · rw [hk, kLt_irrefl] at h1; cases h1
      · have := h.1 y hy
        rw [hk] at this
        have h2 := kLt_trans h1 this
        rw [kLt_irrefl] at h2; cases h2
    · split
      · rename_i h1 h2
        have : ∃ y ∈ l, y.k = e.k := by
          rcases List.mem_cons.1 hy with rfl | hy
          · rw [hk, kLt_irrefl] at h2; cases h2
          · exact ⟨y, hy, hk⟩
        simp only [List.length_cons, insE_len0 e l h.2 this]
      · simp

theorem mem_insE (e x : En) : ∀ l : List En, RisesE l → (x ∈ insE e l ↔ x = e ∨ (x ∈ l ∧ x.k ≠ e.k))
  | [], _ => by simp [insE]
  | z :: l, h => by
    unfold RisesE at h
    rw [List.pairwise_cons] at h
    have ih := mem_insE e x l h.2
    unfold insE
    split
    · rename_i h1
      constructor
      · intro hx
        rcases List.mem_cons.1 hx with rfl | hx
        · exact .inl rfl
        · refine .inr ⟨hx, fun hk => ?_⟩
          rcases List.mem_cons.1 hx with rfl | hx
          · rw [hk, kLt_irrefl] at h1; cases h1
          · have := kLt_trans h1 (h.1 x hx)
            rw [hk, kLt_irrefl] at this; cases this
      · rintro (rfl | ⟨hx, _⟩)
        · exact List.mem_cons_self
        · exact List.mem_cons_of_mem _ hx
    · split
      · rename_i h1 h2
        rw [List.mem_cons, ih, List.mem_cons]
        constructor
        · rintro (rfl | rfl | ⟨a, b⟩)
          · exact .inr ⟨.inl rfl, kLt_ne' h2⟩
          · exact .inl rfl
          · exact .inr ⟨.inr a, b⟩
        · rintro (rfl | ⟨rfl | a, b⟩)
          · exact .inr (.inl rfl)
          · exact .inl rfl
          · exact .inr (.inr ⟨a, b⟩)
      · rename_i h1 h2
        have hz : e.k = z.k := kLt_total (by simpa using h1) (by simpa using h2)
        rw [List.mem_cons, List.mem_cons]
        constructor
        · rintro (rfl | a)
          · exact .inl rfl
          · refine .inr ⟨.inr a, fun hk => ?_⟩
            have := h.1 x a
            rw [hk, hz, kLt_irrefl] at this; cases this
        · rintro (rfl | ⟨rfl | a, b⟩)
          · exact .inl rfl
          · exact absurd hz.symm b
          · exact .inr a
where
  kLt_ne' {a b : ByteArray} (h : kLt a b = true) : a ≠ b := kLt_ne h

theorem look_mem {k : ByteArray} {l : List En} {o : En} (h : lookE k l = some o) : o ∈ l ∧ o.k = k := by
  unfold lookE at h
  have h1 := List.find?_some h
  refine ⟨List.mem_of_find?_eq_some h, ?_⟩
  simp only [Bool.and_eq_true, Bool.not_eq_true'] at h1
  exact kLt_total h1.2 h1.1
theorem look_not {k : ByteArray} {l : List En} (h : lookE k l = none) : ∀ y ∈ l, y.k ≠ k := by
  intro y hy hk
  unfold lookE at h
  have := List.find?_eq_none.1 h y hy
  rw [hk] at this
  simp [kLt_irrefl] at this
theorem key_one {l : List En} (h : RisesE l) {x y : En} (hx : x ∈ l) (hy : y ∈ l) (hk : x.k = y.k) : x = y := by
  induction l with
  | nil => simp at hx
  | cons z l ih =>
    unfold RisesE at h
    rw [List.pairwise_cons] at h
    rcases List.mem_cons.1 hx with e1 | hx2 <;> rcases List.mem_cons.1 hy with e2 | hy2
    · rw [e1, e2]
    · have := h.1 y hy2; rw [← e1, hk, kLt_irrefl] at this; cases this
    · have := h.1 x hx2; rw [← e2, hk, kLt_irrefl] at this; cases this
    · exact ih h.2 hx2 hy2
theorem look_of {l : List En} (h : RisesE l) {y : En} {k : ByteArray} (hy : y ∈ l) (hk : y.k = k) : lookE k l = some y := by
  cases hq : lookE k l with
  | none => exact absurd hk (look_not hq y hy)
  | some o =>
    obtain ⟨h1, h2⟩ := look_mem hq
    rw [key_one h h1 hy (h2.trans hk.symm)]

theorem rises_mem : ∀ {l m : List En}, RisesE l → RisesE m → (∀ x, x ∈ l ↔ x ∈ m) → l = m
  | [], [], _, _, _ => rfl
  | [], y :: m, _, _, h => by have := (h y).2 List.mem_cons_self; simp at this
  | x :: l, [], _, _, h => by have := (h x).1 List.mem_cons_self; simp at this
  | x :: l, y :: m, h1, h2, h => by
    have g1 := h1
    have g2 := h2
    unfold RisesE at h1 h2
    rw [List.pairwise_cons] at h1 h2
    have e : x = y := by
      rcases List.mem_cons.1 ((h x).1 List.mem_cons_self) with e | a
      · exact e
      · rcases List.mem_cons.1 ((h y).2 List.mem_cons_self) with e | b
        · exact e.symm
        · have := kLt_trans (h1.1 y b) (h2.1 x a)
          rw [kLt_irrefl] at this; cases this
    subst e
    rw [rises_mem (l := l) (m := m) h1.2 h2.2 (fun z => ?_)]
    constructor
    · intro hz
      rcases List.mem_cons.1 ((h z).1 (List.mem_cons_of_mem _ hz)) with rfl | a
      · have := h1.1 z hz; rw [kLt_irrefl] at this; cases this
      · exact a
    · intro hz
      rcases List.mem_cons.1 ((h z).2 (List.mem_cons_of_mem _ hz)) with rfl | a
      · have := h2.1 z hz; rw [kLt_irrefl] at this; cases this
      · exact a

/-- What a store is that has taken what P says. -/
structure Took (P : En → Prop) (Ls : List En) (ck : Int) : Prop where
  rises : RisesE Ls
  src : ∀ y ∈ Ls, P y ∧ y.chk = 0
  best : ∀ e, P e → e.chk = 0 → ∃ y ∈ Ls, y.k = e.k ∧ En.newer e y = false
  top : ∀ e, P e → e.chk = 0 → e.c ≤ ck
  eq : ck = 0 ∨ ∃ e, P e ∧ e.chk = 0 ∧ e.c = ck
  pos : 0 ≤ ck
  len : Ls.length ≤ 256

theorem Took.nil : Took (fun _ => False) [] 0 := ⟨List.Pairwise.nil, by simp, by simp, by simp, .inl rfl, by omega, by simp⟩

theorem Took.of {P P' : En → Prop} {Ls : List En} {ck : Int} (h : Took P Ls ck) (e : ∀ x, P x ↔ P' x) : Took P' Ls ck := by
  have : P = P' := funext fun x => propext (e x)
  subst this
  exact h

theorem Took.pass {P : En → Prop} {Ls : List En} {ck : Int} (h : Took P Ls ck) (e : En) (hs : (tkSay e Ls).2 = false) (hf : (tkSay e Ls).1 ≠ 80) : Took (fun x => P x ∨ x = e) Ls ck := by
  have hE : e.chk = 0 → ∃ y ∈ Ls, y.k = e.k ∧ En.newer e y = false := by
    intro h0
    unfold tkSay at hs hf
    rw [if_neg (by simp [h0])] at hs hf
    split at hs
    · rename_i h1
      rw [if_pos h1] at hf
      exact absurd rfl hf
    · cases hq : lookE e.k Ls with
      | none => rw [hq] at hs; simp at hs
      | some o =>
        rw [hq] at hs
        obtain ⟨h2, h3⟩ := look_mem hq
        exact ⟨o, h2, h3, hs⟩
  refine ⟨h.rises, fun y hy => ⟨.inl (h.src y hy).1, (h.src y hy).2⟩, ?_, ?_, ?_, h.pos, h.len⟩
  · rintro x (hx | rfl) h0
    · exact h.best x hx h0
    · exact hE h0
  · rintro x (hx | rfl) h0
    · exact h.top x hx h0
    · obtain ⟨y, hy, _, hn⟩ := hE h0
      have := h.top y (h.src y hy).1 (h.src y hy).2
      rw [nwr_not] at hn
      omega
  · rcases h.eq with h1 | ⟨x, h1, h2⟩
    · exact .inl h1
    · exact .inr ⟨x, .inl h1, h2⟩

theorem Took.take {P : En → Prop} {Ls : List En} {ck : Int} (h : Took P Ls ck) (e : En) (hs : (tkSay e Ls).2 = true) : Took (fun x => P x ∨ x = e) (insE e Ls) (ckm ck e.c) := by
  have h0 : e.chk = 0 := by
    unfold tkSay at hs
    split at hs
    · cases hs
    · rename_i h1; simpa using h1
  have hr : roomB e.k Ls = true := by
    unfold tkSay at hs
    rw [if_neg (by simp [h0])] at hs
    split at hs
    · cases hs
    · rename_i h1; simpa using h1
  have ho : ∀ o ∈ Ls, o.k = e.k → En.newer e o = true := by
    intro o hm hk
    unfold tkSay at hs
    rw [if_neg (by simp [h0]), if_neg (by simp [hr]), look_of h.rises hm hk] at hs
    exact hs
  have hlen : (insE e Ls).length ≤ 256 := by
    cases hq : lookE e.k Ls with
    | none =>
      unfold roomB at hr
      rw [hq] at hr
      simp at hr
      have := insE_len1 e Ls
      omega
    | some o =>
      obtain ⟨h2, h3⟩ := look_mem hq
      rw [insE_len0 e Ls h.rises ⟨o, h2, h3⟩]
      exact h.len
  have hc := h.pos
  have hcm : ck ≤ ckm ck e.c ∧ e.c ≤ ckm ck e.c ∧ (ckm ck e.c = ck ∨ ckm ck e.c = e.c) := by unfold ckm; split <;> omega
  refine ⟨rises_insE e h.rises, fun y hy => ?_, ?_, ?_, ?_, by omega, hlen⟩
  · rcases (mem_insE e y Ls h.rises).1 hy with rfl | ⟨h1, _⟩
    · exact ⟨.inr rfl, h0⟩
    · exact ⟨.inl (h.src y h1).1, (h.src y h1).2⟩
  · rintro x (hx | rfl) hx0
    · obtain ⟨y, hy, hk, hn⟩ := h.best x hx hx0
      by_cases hke : y.k = e.k
      · refine ⟨e, (mem_insE e e Ls h.rises).2 (.inl rfl), hke.symm.trans hk, ?_⟩
        have := ho y hy hke
        rw [nwr_iff] at this
        rw [nwr_not] at hn ⊢
        omega
      · exact ⟨y, (mem_insE e y Ls h.rises).2 (.inr ⟨hy, hke⟩), hk, hn⟩
    · exact ⟨x, (mem_insE x x Ls h.rises).2 (.inl rfl), rfl, by rw [nwr_not]; omega⟩
  · rintro x (hx | rfl) hx0
    · have := h.top x hx hx0; omega
    · omega
  · rcases hcm.2.2 with h1 | h1
    · rw [h1]
      rcases h.eq with h2 | ⟨x, h2, h3⟩
      · exact .inl h2
      · exact .inr ⟨x, .inl h2, h3⟩
    · exact .inr ⟨e, .inr rfl, h0, h1.symm⟩

/-- What was taken is not taken again. -/
theorem Took.again {P : En → Prop} {Ls : List En} {ck : Int} (h : Took P Ls ck) (e : En) (he : P e) : (tkSay e Ls).2 = false := by
  unfold tkSay
  split
  · rfl
  · rename_i h1
    split
    · rfl
    · obtain ⟨y, hy, hk, hn⟩ := h.best e he (by simpa using h1)
      rw [look_of h.rises hy hk]
      exact hn

/-- Two stores that have taken the same are the same. -/
theorem Took.same {P : En → Prop} {Ls Ms : List En} {ck cm : Int} (h : Took P Ls ck) (h' : Took P Ms cm) (ho : ∀ x y, P x → P y → x.k = y.k → x.c = y.c → x.n = y.n → x = y) : Ls = Ms ∧ ck = cm := by
  have one : ∀ {A B : List En} {a b : Int}, Took P A a → Took P B b → ∀ x ∈ A, x ∈ B := by
    intro A B a b hA hB x hx
    obtain ⟨y, hy, hk, hn⟩ := hB.best x (hA.src x hx).1 (hA.src x hx).2
    obtain ⟨z, hz, hk2, hn2⟩ := hA.best y (hB.src y hy).1 (hB.src y hy).2
    obtain rfl := key_one hA.rises hz hx (hk2.trans hk)
    rw [nwr_not] at hn hn2
    rw [ho z y (hA.src z hz).1 (hB.src y hy).1 hk2 (by omega) (by omega)]
    exact hy
  refine ⟨rises_mem h.rises h'.rises (fun x => ⟨one h h' x, one h' h x⟩), ?_⟩
  have a1 := h.pos
  have a2 := h'.pos
  rcases h.eq with e1 | ⟨x, e1, e2, e3⟩ <;> rcases h'.eq with f1 | ⟨y, f1, f2, f3⟩
  · omega
  · have := h.top y f1 f2; omega
  · have := h'.top x e1 e2; omega
  · have := h.top y f1 f2; have := h'.top x e1 e2; omega

end Go.Proofs.YtlgcdcjhflihiaaDoor

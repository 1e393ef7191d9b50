/-
  write, Put and Delete.
  Put, Delete and Take.
  New: a store that holds nothing.
  A store, as a law meets it: by the entries that it holds.
  Entries and versions compared.
  The examples at the head of the statements on stores: they hold.
  The law StoreNew, walked.
-/
import Derived.Test.YtlgcdcjhflihiaaDoorBstorenew7
import Derived.Test.YtlgcdcjhflihiaaDoorBstorenew1
import Derived.Laws.StructEq
namespace Go.Proofs.YtlgcdcjhflihiaaDoor
open Go.RowKit
set_option linter.unusedVariables false

/-- What write answers: its error, or none. -/
def wrErr (k v : ByteArray) (nd ck : Int) (Ls : List En) : Int :=
  if (16 : Int) < k.size then 20 else if (32 : Int) < v.size then 31 else if roomB k Ls = false then 80 else (Vs.nx ck nd).2.2

/-- The entry that is written. -/
def wrEn (k v : ByteArray) (d : Bool) (nd ck : Int) : En := ⟨k, ck + 1, nd, v, d⟩

theorem ver_end {w X : World} {sb g tb i : Nat} {nd ck : Int} {T : Tr En Tl} {n : Nat} {x y : Value} (h : IsSt X sb g tb nd ck T n) (k : Keeps (Of sb g tb) w X) (hb : X.heap[w.heap.size + i]? = some (.cells #[x, y] 37 (0, 0))) (c m : Int) :
    IsSt ((X.setCell ⟨w.heap.size + i, 0, none⟩ (.int .i64 c)).setCell ⟨w.heap.size + i, 1, none⟩ (.int .i64 m)) sb g tb nd ck T n ∧ Keeps (Of sb g tb) w ((X.setCell ⟨w.heap.size + i, 0, none⟩ (.int .i64 c)).setCell ⟨w.heap.size + i, 1, none⟩ (.int .i64 m)) := by
  have hn := h.not hb (by decide) (by decide) (by decide)
  obtain ⟨p, ht, hT⟩ := h.tree
  have h1 := heap_setCell_same X (w.heap.size + i) 0 _ _ (.int .i64 c) hb
  refine ⟨⟨?_, (h.cnt.setCell (p := ⟨w.heap.size + i, 0, none⟩) _ (fun e => hn (.inr (.inr (Option.some.inj e).symm)))).setCell (p := ⟨w.heap.size + i, 1, none⟩) _ (fun e => hn (.inr (.inr (Option.some.inj e).symm))), ⟨p, ?_, hT.on (((Stay.refl _ X).setCell _ (fun cs e => by dsimp only at e; rw [hb] at e; simp at e)).setCell _ (fun cs e => by dsimp only at e; rw [h1] at e; simp at e))⟩⟩, (k.setCell (p := ⟨w.heap.size + i, 0, none⟩) (fun e => by dsimp only at e; omega) _).setCell (p := ⟨w.heap.size + i, 1, none⟩) (fun e => by dsimp only at e; omega) _⟩
  · rw [heap_setCell_other _ _ _ _ (fun e => hn (.inl e.symm)), heap_setCell_other _ _ _ _ (fun e => hn (.inl e.symm))]; exact h.blk
  · unfold TObjE; rw [heap_setCell_other _ _ _ _ (fun e => hn (.inr (.inl e.symm))), heap_setCell_other _ _ _ _ (fun e => hn (.inr (.inl e.symm)))]; exact ht

theorem ver_lay {w X : World} {sb g tb vb : Nat} {nd ck : Int} {T : Tr En Tl} {n : Nat} {x y : Value} {cs : Array Value} {z u : Value} (h : IsSt X sb g tb nd ck T n) (b : Below w.heap.size w X) (L : Lanes X) (g0 : X.heap[w.heap.size]? = some (.cells cs 39 (0, 0))) (g1 : X.heap[w.heap.size + 1]? = some (.cells #[z, u] 37 (0, 0))) (gv : X.heap[vb]? = some (.cells #[x, y] 37 (0, 0))) (hv : w.heap.size + 2 ≤ vb) (c m : Int) :
    (fun Y : World => IsSt Y sb g tb nd ck T n ∧ Below w.heap.size w Y ∧ Lanes Y ∧ Y.heap[w.heap.size]? = some (.cells cs 39 (0, 0)) ∧ Y.heap[w.heap.size + 1]? = some (.cells #[z, u] 37 (0, 0)) ∧ Y.heap[vb]? = some (.cells #[.int .i64 c, .int .i64 m] 37 (0, 0))) ((X.setCell ⟨vb, 0, none⟩ (.int .i64 c)).setCell ⟨vb, 1, none⟩ (.int .i64 m)) := by
  have h1 := heap_setCell_same X vb 0 _ _ (.int .i64 c) gv
  have h2 := heap_setCell_same _ vb 1 _ _ (.int .i64 m) h1
  have ob : ∀ k, k ≠ vb → ((X.setCell ⟨vb, 0, none⟩ (.int .i64 c)).setCell ⟨vb, 1, none⟩ (.int .i64 m)).heap[k]? = X.heap[k]? := fun k hk => by rw [heap_setCell_other _ _ _ _ hk, heap_setCell_other _ _ _ _ hk]
  have hn := h.not gv (by decide) (by decide) (by decide)
  have kk : Keeps (fun x => x = vb) X ((X.setCell ⟨vb, 0, none⟩ (.int .i64 c)).setCell ⟨vb, 1, none⟩ (.int .i64 m)) := ((Keeps.refl (fun x => x = vb) X).setCell (p := ⟨vb, 0, none⟩) (fun _ => rfl) _).setCell (p := ⟨vb, 1, none⟩) (fun _ => rfl) _
  obtain ⟨p, ht, hT⟩ := h.tree
  refine ⟨⟨(ob _ (fun e => hn (.inl e.symm))).trans h.blk, fun b' e => (ob _ (fun e2 => hn (.inr (.inr (by cases e; exact e2.symm))))).trans (h.cnt b' e), ⟨p, (ob _ (fun e => hn (.inr (.inl e.symm)))).trans ht, hT.on ((Stay.refl _ X).keeps kk (fun i cs' hi e => by subst e; rw [gv] at hi; simp at hi))⟩⟩, ?_, L.keeps kk (fun e => ?_), (ob _ (by omega)).trans g0, (ob _ (by omega)).trans g1, h2⟩
  · exact (b.setCell (p := ⟨vb, 0, none⟩) (by dsimp only; omega) _).setCell (p := ⟨vb, 1, none⟩) (by dsimp only; omega) _
  · have h3 := L.c5
    rw [show World.cell? X ⟨0, 5, none⟩ = none from by rw [← e] at gv; simp [World.cell?, gv]] at h3
    cases h3

/-- The version laid into the entry. -/
theorem wr_box {w X : World} {sb g tb vb : Nat} {ck : Int} {T : Tr En Tl} {n : Nat} {k v : ByteArray} {d : Bool} {a0 a1 : Int} {z u : Value} {c m : Int} {nd' : Int} (h : IsSt X sb g tb nd' ck T n) (b : Below w.heap.size w X) (L : Lanes X) (g0 : X.heap[w.heap.size]? = some (.cells #[.string k, .int .i64 a0, .int .i64 a1, .string v, .bool d] 39 (0, 0))) (g1 : X.heap[w.heap.size + 1]? = some (.cells #[z, u] 37 (0, 0))) (gv : X.heap[vb]? = some (.cells #[.int .i64 c, .int .i64 m] 37 (0, 0))) (hv : w.heap.size + 2 ≤ vb) :
    (fun Y : World => IsSt Y sb g tb nd' ck T n ∧ Lanes Y ∧ Y.heap[w.heap.size + 1]? = some (.cells #[z, u] 37 (0, 0)) ∧ Y.heap[vb]? = some (.cells #[.int .i64 c, .int .i64 m] 37 (0, 0)) ∧ Below w.heap.size w Y ∧ Y.heap[w.heap.size]? = some (.cells #[.string k, .int .i64 c, .int .i64 m, .string v, .bool d] 39 (0, 0))) ((X.setCell ⟨w.heap.size, 1, none⟩ (.int .i64 c)).setCell ⟨w.heap.size, 2, none⟩ (.int .i64 m)) := by
  have h1 := heap_setCell_same X w.heap.size 1 _ _ (.int .i64 c) g0
  have h2 := heap_setCell_same _ w.heap.size 2 _ _ (.int .i64 m) h1
  have ob : ∀ k, k ≠ w.heap.size → ((X.setCell ⟨w.heap.size, 1, none⟩ (.int .i64 c)).setCell ⟨w.heap.size, 2, none⟩ (.int .i64 m)).heap[k]? = X.heap[k]? := fun k hk => by rw [heap_setCell_other _ _ _ _ hk, heap_setCell_other _ _ _ _ hk]
  have hn := h.not g0 (by decide) (by decide) (by decide)
  have kk : Keeps (fun x => x = w.heap.size) X ((X.setCell ⟨w.heap.size, 1, none⟩ (.int .i64 c)).setCell ⟨w.heap.size, 2, none⟩ (.int .i64 m)) := ((Keeps.refl (fun x => x = w.heap.size) X).setCell (p := ⟨w.heap.size, 1, none⟩) (fun _ => rfl) _).setCell (p := ⟨w.heap.size, 2, none⟩) (fun _ => rfl) _
  obtain ⟨p, ht, hT⟩ := h.tree
  refine ⟨⟨(ob _ (fun e => hn (.inl e.symm))).trans h.blk, fun b' e => (ob _ (fun e2 => hn (.inr (.inr (by cases e; exact e2.symm))))).trans (h.cnt b' e), ⟨p, (ob _ (fun e => hn (.inr (.inl e.symm)))).trans ht, hT.on ((Stay.refl _ X).keeps kk (fun i cs' hi e => by subst e; rw [g0] at hi; simp at hi))⟩⟩, L.keeps kk (fun e => ?_), (ob _ (by omega)).trans g1, (ob _ (by omega)).trans gv, ?_, h2⟩
  · have h3 := L.c5
    rw [show World.cell? X ⟨0, 5, none⟩ = none from by rw [← e] at g0; simp [World.cell?, g0]] at h3
    cases h3
  · exact (b.setCell (p := ⟨w.heap.size, 1, none⟩) (by dsimp only; omega) _).setCell (p := ⟨w.heap.size, 2, none⟩) (by dsimp only; omega) _

set_option maxHeartbeats 3200000 in
set_option maxRecDepth 100000 in
theorem write_go (k v : ByteArray) (d : Bool) {Ls : List En} {w : World} {sb g tb : Nat} {nd ck : Int} {T : Tr En Tl} {n : Nat} (H0 : IsSt ((w.alloc (.cells #[.string k, .int .i64 0, .int .i64 0, .string v, .bool d] 39)).alloc (.cells #[.int .i64 0, .int .i64 0] 37)) sb g tb nd ck T n) (L : Lanes ((w.alloc (.cells #[.string k, .int .i64 0, .int .i64 0, .string v, .bool d] 39)).alloc (.cells #[.int .i64 0, .int .i64 0] 37))) (hH : Hol T Ls) (hl : Ls.length ≤ 1000000) (B0 : Below w.heap.size w ((w.alloc (.cells #[.string k, .int .i64 0, .int .i64 0, .string v, .bool d] 39)).alloc (.cells #[.int .i64 0, .int .i64 0] 37)))
    (g0 : ((w.alloc (.cells #[.string k, .int .i64 0, .int .i64 0, .string v, .bool d] 39)).alloc (.cells #[.int .i64 0, .int .i64 0] 37)).heap[w.heap.size]? = some (.cells #[.string k, .int .i64 0, .int .i64 0, .string v, .bool d] 39 (0, 0))) (g1 : ((w.alloc (.cells #[.string k, .int .i64 0, .int .i64 0, .string v, .bool d] 39)).alloc (.cells #[.int .i64 0, .int .i64 0] 37)).heap[w.heap.size + 1]? = some (.cells #[.int .i64 0, .int .i64 0] 37 (0, 0))) (h1 : ¬ (16 : Int) < k.size) (h2 : ¬ (32 : Int) < v.size)
    (CR : Hid (∀ (W : World), IsSt W sb g tb nd ck T n → Calls Tryd.prog 35 #[.pointer (some ⟨sb, 0, none⟩), .string k] W fun r w' => r = .returned (.bool true) ∧ Below W.heap.size W w')) (HE : Hid (wrErr k v nd ck Ls = (Vs.nx ck nd).2.2))
    (q0 : ((w.alloc (.cells #[.string k, .int .i64 0, .int .i64 0, .string v, .bool d] 39)).alloc (.cells #[.int .i64 0, .int .i64 0] 37)).cell? ⟨w.heap.size, 0, none⟩ = some (.string k)) (q3 : ((w.alloc (.cells #[.string k, .int .i64 0, .int .i64 0, .string v, .bool d] 39)).alloc (.cells #[.int .i64 0, .int .i64 0] 37)).cell? ⟨w.heap.size, 3, none⟩ = some (.string v)) :
    Calls Tryd.prog 33 #[.pointer (some ⟨sb, 0, none⟩), .agg #[.string k, .int .i64 0, .int .i64 0, .string v, .bool d]] w fun r w' => ∃ c m er, r = .returned (.tuple #[.agg #[.int .i64 c, .int .i64 m], .int .i64 er]) ∧ er = wrErr k v nd ck Ls ∧ Keeps (Of sb g tb) w w' ∧
      ((er ≠ 0 ∧ c = 0 ∧ m = 0 ∧ IsSt w' sb g tb nd ck T n) ∨ (er = 0 ∧ c = ck + 1 ∧ m = nd ∧ IsSt w' sb g tb nd (ck + 1) (Tr.put k (wrEn k v d nd ck) (tof (wrEn k v d nd ck)) T) (n + Tr.putC k (wrEn k v d nd ck) (tof (wrEn k v d nd ck)) T))) := by
  have H := aside H0
  have B := aside B0
  have G0 := aside g0
  have G1 := aside g1
  have LL := aside L
  obtain ⟨c, m, er, hnx⟩ : ∃ c m er, Vs.nx ck nd = (c, m, er) := ⟨_, _, _, rfl⟩
  have CN := aside (fun (W : World) => next_at hnx W)
  rw [hnx] at HE
  have HN : Hid ((er ≠ 0 ∧ c = 0 ∧ m = 0) ∨ (er = 0 ∧ c = ck + 1 ∧ m = nd ∧ ck < 1099511627776)) := by
    rcases nx_cases ck nd with h | h | ⟨h, h4, h5, -⟩ <;> rw [hnx] at h <;> injection h with h5 h6 <;> injection h6 with h6 h7 <;> subst h5 h6 h7
    · exact .inl ⟨by decide, rfl, rfl⟩
    · exact .inl ⟨by decide, rfl, rfl⟩
    · exact .inr ⟨rfl, rfl, rfl, h5⟩
  have CH := aside (fun (W : World) (h : IsSt W sb g tb nd ck T n) (hL : Lanes W) => shold ⟨k, c, m, v, d⟩ h hL hH hl (by dsimp only; omega))
  dsimp only at CH
  clear H0 B0 g0 g1 L hH hl hnx
  go_enter Tryd.func33, Tryd.ntmps33
  go_wp2_with fail
  refine (CR.out _ H.out).mono ?_
  rintro e w1 ⟨rfl, b1⟩
  have H1 := aside (H.out.below b1)
  have B1 := aside (bthen B.out b1)
  have G01 := aside (blk_on G0.out b1)
  have G11 := aside (blk_on G1.out b1)
  have L1 := aside (LL.out.keep b1)
  clear b1 q0 q3 H G0 G1 B CR LL
  go_wp2_with fail
  refine wp_region_held_drew (S := fun X => X.cell? ⟨sb, 0, none⟩ = some (.int .i64 nd) ∧ X.cell? ⟨sb, 1, none⟩ = some (.int .i64 ck)) (by kernel_rfl) ⟨(quad H1.out.drew.blk).1, (quad H1.out.drew.blk).2.1⟩ (fun hHeld => ?_)
  refine wpAnyH_take (i := 0) (v := ?_) rfl (by kernel_rfl) (by kernel_rfl) (by kernel_rfl) (fun _ _ _ h => h) (Or.inl ⟨by rfl, ?_⟩) (by assumption) ?_
  rotate_left
  · intro w hSw
    go_simp
    try with_reducible rfl
  simp only [Act.put, List.getElem_toArray, List.getElem_cons_zero, List.setIfInBounds_toArray, List.set_cons_zero, List.set_cons_succ]
  refine wpAnyH_take (i := 1) (v := ?_) rfl (by kernel_rfl) (by kernel_rfl) (by kernel_rfl) (fun _ _ _ h => h) (Or.inl ⟨by rfl, ?_⟩) (by assumption) ?_
  rotate_left
  · intro w hSw
    go_simp
    try with_reducible rfl
  simp only [Act.put, List.getElem_toArray, List.getElem_cons_zero, List.getElem_cons_succ, List.setIfInBounds_toArray, List.set_cons_zero, List.set_cons_succ]
  refine wpAnyH_take (i := 2) (v := ?_) rfl (by kernel_rfl) (by kernel_rfl) (by kernel_rfl) (fun _ _ _ h => h) (Or.inl ⟨by rfl, ?_⟩) (by assumption) ?_
  rotate_left
  · intro w hSw
    go_simp
    try with_reducible rfl
  simp only [Act.put, List.getElem_toArray, List.getElem_cons_zero, List.getElem_cons_succ, List.setIfInBounds_toArray, List.set_cons_zero, List.set_cons_succ]
  refine wpAnyH_take (i := 3) (v := ?_) rfl (by kernel_rfl) (by kernel_rfl) (by kernel_rfl) (fun _ _ _ h => h) (Or.inl ⟨by rfl, ?_⟩) (by assumption) ?_
  rotate_left
  · intro w hSw
    go_simp
    try with_reducible rfl
  simp only [Act.put, List.getElem_toArray, List.getElem_cons_zero, List.getElem_cons_succ, List.setIfInBounds_toArray, List.set_cons_zero, List.set_cons_succ]
  refine wpAnyH_take (i := 4) (v := ?_) rfl (by kernel_rfl) (by kernel_rfl) (by kernel_rfl) (fun _ _ _ h => h) (Or.inl ⟨by rfl, ?_⟩) (by assumption) ?_
  rotate_left
  · intro w hSw
    go_simp
    try with_reducible rfl
  simp only [Act.put, List.getElem_toArray, List.getElem_cons_zero, List.getElem_cons_succ, List.setIfInBounds_toArray, List.set_cons_zero, List.set_cons_succ]
  refine wpAnyH_take (i := 5) (v := ?_) rfl (by kernel_rfl) (by kernel_rfl) (by kernel_rfl) (fun _ _ _ h => h) (Or.inl ⟨by rfl, ?_⟩) (by assumption) ?_
  rotate_left
  · intro w hSw
    go_simp
    try with_reducible rfl
  simp only [Act.put, List.getElem_toArray, List.getElem_cons_zero, List.getElem_cons_succ, List.setIfInBounds_toArray, List.set_cons_zero, List.set_cons_succ]
  refine wpAnyH_take (i := 6) (v := ?_) rfl (by kernel_rfl) (by kernel_rfl) (by kernel_rfl) (fun _ _ _ h => h) (Or.inl ⟨by rfl, ?_⟩) (by assumption) ?_
  rotate_left
  · intro w hSw
    go_simp
    try with_reducible rfl
  simp only [Act.put, List.getElem_toArray, List.getElem_cons_zero, List.getElem_cons_succ, List.setIfInBounds_toArray, List.set_cons_zero, List.set_cons_succ]
  refine wpAnyH_take (i := 7) (v := ?_) rfl (by kernel_rfl) (by kernel_rfl) (by kernel_rfl) (fun _ _ _ h => h) (Or.inl ⟨by rfl, ?_⟩) (by assumption) ?_
  rotate_left
  · intro w hSw
    go_simp
    try with_reducible rfl
  simp only [Act.put, List.getElem_toArray, List.getElem_cons_zero, List.getElem_cons_succ, List.setIfInBounds_toArray, List.set_cons_zero, List.set_cons_succ]
  refine wpAnyH_ready (rs := [8, 12]) (by kernel_rfl) (by simp) ?_
  refine AllReadyH.cons rfl (fun K hK => ?_) (AllReadyH.cons rfl (fun K hK => ?_) AllReadyH.nil)
  · go_simp
    refine (CN.out _).mono ?_
    rintro e w9 ⟨rfl, bb⟩
    have HX := aside (H1.out.drew.below bb)
    refine hK.out _ _ (⟨(quad HX.out.blk).1, (quad HX.out.blk).2.1⟩) (fun hHeld => ?_)
    clear hK K
    have H2 := aside (HX.out.alloc (.cells #[.int .i64 c, .int .i64 m] 37))
    have B2 := aside (bthen (bthen B1.out.drew bb) (bnew _ (.cells #[.int .i64 c, .int .i64 m] 37)))
    have G02 := aside (blk_on (blk_on (show w1.drew.heap[w.heap.size]? = some _ from G01.out) bb) (bnew _ (.cells #[.int .i64 c, .int .i64 m] 37)))
    have G12 := aside (blk_on (blk_on (show w1.drew.heap[w.heap.size + 1]? = some _ from G11.out) bb) (bnew _ (.cells #[.int .i64 c, .int .i64 m] 37)))
    have L2 := aside ((L1.out.drew.keep bb).keep (bnew _ (.cells #[.int .i64 c, .int .i64 m] 37)))
    have GV := aside (heap_alloc_new w9 (.cells #[.int .i64 c, .int .i64 m] 37))
    have HV := aside (show w.heap.size + 2 ≤ w9.heap.size from by have := lt_of_blk (blk_on (show w1.drew.heap[w.heap.size + 1]? = some _ from G11.out) bb); omega)
    clear bb
    refine wpAnyH_take (i := 9) (v := ?_) rfl (by kernel_rfl) (by kernel_rfl) (by kernel_rfl) (fun _ _ _ h => h) (Or.inl ⟨by rfl, ?_⟩) (by assumption) ?_
    rotate_left
    · intro w hSw
      go_simp
      try with_reducible rfl
    simp only [Act.put, List.getElem_toArray, List.getElem_cons_zero, List.getElem_cons_succ, List.setIfInBounds_toArray, List.set_cons_zero, List.set_cons_succ]
    refine wpAnyH_take (i := 10) (v := ?_) rfl (by kernel_rfl) (by kernel_rfl) (by kernel_rfl) (fun _ _ _ h => h) (Or.inl ⟨by rfl, ?_⟩) (by assumption) ?_
    rotate_left
    · intro w hSw
      go_simp
      try with_reducible rfl
    simp only [Act.put, List.getElem_toArray, List.getElem_cons_zero, List.getElem_cons_succ, List.setIfInBounds_toArray, List.set_cons_zero, List.set_cons_succ]
    refine wpAnyH_take (i := 11) (v := ?_) rfl (by kernel_rfl) (by kernel_rfl) (by kernel_rfl) (fun _ _ _ h => h) (Or.inl ⟨by rfl, ?_⟩) (by assumption) ?_
    rotate_left
    · intro w hSw
      go_simp
      try with_reducible rfl
    simp only [Act.put, List.getElem_toArray, List.getElem_cons_zero, List.getElem_cons_succ, List.setIfInBounds_toArray, List.set_cons_zero, List.set_cons_succ]
    refine wpAnyH_ready (rs := [12]) (by kernel_rfl) (by simp) ?_
    refine AllReadyH.cons rfl (fun K hK => ?_) AllReadyH.nil
    go_simp
    refine hK.out _ _ (⟨(quad (HX.out.alloc _).blk).1, (quad (HX.out.alloc _).blk).2.1⟩) (fun hHeld => ?_)
    clear hK K 
    refine wpAnyH_ready (rs := [13]) (by kernel_rfl) (by simp) ?_
    refine AllReadyH.cons rfl (fun K hK => ?_) AllReadyH.nil
    go_simp
    refine hK.out _ _ (⟨(quad (HX.out.alloc _).blk).1, (quad (HX.out.alloc _).blk).2.1⟩) (fun hHeld => ?_)
    clear hK K 
    refine wpAnyH_take (i := 14) (v := ?_) rfl (by kernel_rfl) (by kernel_rfl) (by kernel_rfl) (fun _ _ _ h => h) (Or.inl ⟨by rfl, ?_⟩) (by assumption) ?_
    rotate_left
    · intro w hSw
      go_simp
      try with_reducible rfl
    simp only [Act.put, List.getElem_toArray, List.getElem_cons_zero, List.getElem_cons_succ, List.setIfInBounds_toArray, List.set_cons_zero, List.set_cons_succ]
    refine wpAnyH_done (by kernel_rfl) ?_ _
    clear hHeld HX H1 B1 G01 G11 L1 CN
    generalize w9.alloc (.cells #[.int .i64 c, .int .i64 m] 37) = X at *
    generalize w9.heap.size = vb at *
    rcases HN.out with ⟨he, rfl, rfl⟩ | ⟨rfl, rfl, rfl, hck⟩
    · have he' : (er == 0) = false := beq_eq_false_iff_ne.2 he
      have HEr := aside he
      clear he
      obtain ⟨s0, s1, z0, z1⟩ := pair G12.out
      have E := aside (ver_end (i := 1) H2.out (Keeps.of_below B2.out _) G12.out 0 0)
      go_wp2
      refine bodyPost_ret (v := .tuple #[.agg #[.int .i64 0, .int .i64 0], .int .i64 er]) (by simp [results, Tryd.results33, go_sem, s0, s1]) rfl ⟨0, 0, er, rfl, HE.out.symm, E.out.2, .inl ⟨HEr.out, rfl, rfl, E.out.1⟩⟩
    · clear hck
      obtain ⟨v0, v1, -, -⟩ := pair GV.out
      obtain ⟨q0, q1, q2, q3, q4, y0, y1, y2, y3, y4⟩ := penta G02.out
      have WB := aside (wr_box H2.out B2.out L2.out G02.out G12.out GV.out HV.out)
      go_wp2_with fail
      obtain ⟨H3, L3, G13, GV3, K3, q3'⟩ := WB.out
      refine (CH.out _ H3 L3).mono ?_
      rintro r w4 ⟨rfl, h4, k4⟩
      have ec : ckm ck (ck + 1) = ck + 1 := by unfold ckm; rw [if_pos (by omega)]
      rw [ec] at h4
      have G14 := aside (blk_keep G13 k4 (H3.not G13 (by decide) (by decide) (by decide)))
      have GV4 := aside (blk_keep GV3 k4 (H3.not GV3 (by decide) (by decide) (by decide)))
      have E := aside (ver_end (i := 1) h4 ((Keeps.of_below K3 _).trans k4) G14.out (ck + 1) m)
      clear h4 k4 H3 L3 G13 GV3 K3 q3' WB CH q0 q1 q2 q3 q4 y0 y1 y2 y3 y4 v0 v1 ec
      obtain ⟨v0, v1, -, -⟩ := pair GV4.out
      obtain ⟨s0, s1, z0, z1⟩ := pair G14.out
      go_wp2
      refine bodyPost_ret (v := .tuple #[.agg #[.int .i64 (ck + 1), .int .i64 m], .int .i64 0]) (by simp [results, Tryd.results33, go_sem, s0, s1]) rfl ⟨ck + 1, m, 0, rfl, HE.out.symm, E.out.2, .inr ⟨rfl, rfl, rfl, E.out.1⟩⟩
  · go_simp
    refine hK.out _ _ (⟨(quad (H1.out.alloc _).drew.blk).1, (quad (H1.out.alloc _).drew.blk).2.1⟩) (fun hHeld => ?_)
    clear hK K
    have HX := aside (H1.out.alloc (.cells #[.int .i64 0, .int .i64 0] 37)).drew
    have GX := aside (show (w1.alloc (.cells #[.int .i64 0, .int .i64 0] 37)).drew.heap[w1.heap.size]? = some (.cells #[.int .i64 0, .int .i64 0] 37 (0, 0)) from heap_alloc_new w1 _)
    have BX := aside (bthen B1.out (bnew _ (.cells #[.int .i64 0, .int .i64 0] 37))).drew
    have G0X := aside (show (w1.alloc (.cells #[.int .i64 0, .int .i64 0] 37)).drew.heap[w.heap.size]? = some _ from blk_on G01.out (bnew _ _).drew)
    have G1X := aside (show (w1.alloc (.cells #[.int .i64 0, .int .i64 0] 37)).drew.heap[w.heap.size + 1]? = some _ from blk_on G11.out (bnew _ _).drew)
    have LX := aside (L1.out.keep (bnew _ (.cells #[.int .i64 0, .int .i64 0] 37))).drew
    have HV := aside (show w.heap.size + 2 ≤ w1.heap.size from by have := lt_of_blk G11.out; omega)
    clear H1 B1 G01 G11 L1
    generalize w1.heap.size = vb at *
    refine wpAnyH_ready (rs := [8]) (by kernel_rfl) (by simp) ?_
    refine AllReadyH.cons rfl (fun K hK => ?_) AllReadyH.nil
    go_simp
    refine (CN.out _).mono ?_
    rintro e w9 ⟨rfl, bb⟩
    refine hK.out _ _ (⟨(quad (HX.out.below bb).blk).1, (quad (HX.out.below bb).blk).2.1⟩) (fun hHeld => ?_)
    clear hK K 
    have HY := aside (HX.out.below bb)
    have GY := aside (blk_on GX.out bb)
    have BY := aside (BX.out.trans (bb.mono BX.out.size))
    have G0Y := aside (blk_on G0X.out bb)
    have G1Y := aside (blk_on G1X.out bb)
    have LY := aside (LX.out.keep bb)
    clear bb
    refine wpAnyH_take (i := 9) (v := ?_) rfl (by kernel_rfl) (by kernel_rfl) (by kernel_rfl) (fun _ _ _ h => h) (Or.inl ⟨by rfl, ?_⟩) (by assumption) ?_
    rotate_left
    · intro w hSw
      go_simp
      try with_reducible rfl
    simp only [Act.put, List.getElem_toArray, List.getElem_cons_zero, List.getElem_cons_succ, List.setIfInBounds_toArray, List.set_cons_zero, List.set_cons_succ]
    refine wpAnyH_take (i := 10) (v := ?_) rfl (by kernel_rfl) (by kernel_rfl) (by kernel_rfl) (fun _ _ _ h => h) (Or.inl ⟨by rfl, ?_⟩) (by assumption) ?_
    rotate_left
    · intro w hSw
      go_simp
      try with_reducible rfl
    simp only [Act.put, List.getElem_toArray, List.getElem_cons_zero, List.getElem_cons_succ, List.setIfInBounds_toArray, List.set_cons_zero, List.set_cons_succ]
    refine wpAnyH_take (i := 11) (v := ?_) rfl (by kernel_rfl) (by kernel_rfl) (by kernel_rfl) (fun _ _ _ h => h) (Or.inl ⟨by rfl, ?_⟩) (by assumption) ?_
    rotate_left
    · intro w hSw
      go_simp
      try with_reducible rfl
    simp only [Act.put, List.getElem_toArray, List.getElem_cons_zero, List.getElem_cons_succ, List.setIfInBounds_toArray, List.set_cons_zero, List.set_cons_succ]
    obtain ⟨u0, u1, o0, o1⟩ := pair GY.out
    have E9 := aside (ver_lay HY.out BY.out LY.out G0Y.out G1Y.out GY.out HV.out c m)
    refine wpAnyH_ready (rs := [13]) (by kernel_rfl) (by simp) ?_
    refine AllReadyH.cons rfl (fun K hK => ?_) AllReadyH.nil
    go_simp
    refine hK.out _ _ (⟨(quad E9.out.1.blk).1, (quad E9.out.1.blk).2.1⟩) (fun hHeld => ?_)
    clear hK K 
    refine wpAnyH_take (i := 14) (v := ?_) rfl (by kernel_rfl) (by kernel_rfl) (by kernel_rfl) (fun _ _ _ h => h) (Or.inl ⟨by rfl, ?_⟩) (by assumption) ?_
    rotate_left
    · intro w hSw
      go_simp
      try with_reducible rfl
    simp only [Act.put, List.getElem_toArray, List.getElem_cons_zero, List.getElem_cons_succ, List.setIfInBounds_toArray, List.set_cons_zero, List.set_cons_succ]
    refine wpAnyH_done (by kernel_rfl) ?_ _
    clear hHeld u0 u1 o0 o1 HX GX BX G0X G1X LX HY GY BY G0Y G1Y LY CN
    generalize (w9.setCell ⟨vb, 0, none⟩ (.int .i64 c)).setCell ⟨vb, 1, none⟩ (.int .i64 m) = X at *
    obtain ⟨H2', B2', L2', G02', G12', GV'⟩ := E9.out
    have H2 := aside H2'
    have B2 := aside B2'
    have L2 := aside L2'
    have G02 := aside G02'
    have G12 := aside G12'
    have GV := aside GV'
    clear H2' B2' L2' G02' G12' GV' E9
    rcases HN.out with ⟨he, rfl, rfl⟩ | ⟨rfl, rfl, rfl, hck⟩
    · have he' : (er == 0) = false := beq_eq_false_iff_ne.2 he
      have HEr := aside he
      clear he
      obtain ⟨s0, s1, z0, z1⟩ := pair G12.out
      have E := aside (ver_end (i := 1) H2.out (Keeps.of_below B2.out _) G12.out 0 0)
      go_wp2
      refine bodyPost_ret (v := .tuple #[.agg #[.int .i64 0, .int .i64 0], .int .i64 er]) (by simp [results, Tryd.results33, go_sem, s0, s1]) rfl ⟨0, 0, er, rfl, HE.out.symm, E.out.2, .inl ⟨HEr.out, rfl, rfl, E.out.1⟩⟩
    · clear hck
      obtain ⟨v0, v1, -, -⟩ := pair GV.out
      obtain ⟨q0, q1, q2, q3, q4, y0, y1, y2, y3, y4⟩ := penta G02.out
      have WB := aside (wr_box H2.out B2.out L2.out G02.out G12.out GV.out HV.out)
      go_wp2_with fail
      obtain ⟨H3, L3, G13, GV3, K3, q3'⟩ := WB.out
      refine (CH.out _ H3 L3).mono ?_
      rintro r w4 ⟨rfl, h4, k4⟩
      have ec : ckm ck (ck + 1) = ck + 1 := by unfold ckm; rw [if_pos (by omega)]
      rw [ec] at h4
      have G14 := aside (blk_keep G13 k4 (H3.not G13 (by decide) (by decide) (by decide)))
      have GV4 := aside (blk_keep GV3 k4 (H3.not GV3 (by decide) (by decide) (by decide)))
      have E := aside (ver_end (i := 1) h4 ((Keeps.of_below K3 _).trans k4) G14.out (ck + 1) m)
      clear h4 k4 H3 L3 G13 GV3 K3 q3' WB CH q0 q1 q2 q3 q4 y0 y1 y2 y3 y4 v0 v1 ec
      obtain ⟨v0, v1, -, -⟩ := pair GV4.out
      obtain ⟨s0, s1, z0, z1⟩ := pair G14.out
      go_wp2
      refine bodyPost_ret (v := .tuple #[.agg #[.int .i64 (ck + 1), .int .i64 m], .int .i64 0]) (by simp [results, Tryd.results33, go_sem, s0, s1]) rfl ⟨ck + 1, m, 0, rfl, HE.out.symm, E.out.2, .inr ⟨rfl, rfl, rfl, E.out.1⟩⟩

set_option maxHeartbeats 3200000 in
set_option maxRecDepth 100000 in
theorem swrite (k v : ByteArray) (d : Bool) {Ls : List En} {w : World} {sb g tb : Nat} {nd ck : Int} {T : Tr En Tl} {n : Nat} (h : IsSt w sb g tb nd ck T n) (L : Lanes w) (hH : Hol T Ls) (hl : Ls.length ≤ 1000000) :
    Calls Tryd.prog 33 #[.pointer (some ⟨sb, 0, none⟩), .agg #[.string k, .int .i64 0, .int .i64 0, .string v, .bool d]] w fun r w' => ∃ c m er, r = .returned (.tuple #[.agg #[.int .i64 c, .int .i64 m], .int .i64 er]) ∧ er = wrErr k v nd ck Ls ∧ Keeps (Of sb g tb) w w' ∧
      ((er ≠ 0 ∧ c = 0 ∧ m = 0 ∧ IsSt w' sb g tb nd ck T n) ∨ (er = 0 ∧ c = ck + 1 ∧ m = nd ∧ IsSt w' sb g tb nd (ck + 1) (Tr.put k (wrEn k v d nd ck) (tof (wrEn k v d nd ck)) T) (n + Tr.putC k (wrEn k v d nd ck) (tof (wrEn k v d nd ck)) T))) := by
  have b0 := bnew w (.cells #[.string k, .int .i64 0, .int .i64 0, .string v, .bool d] 39)
  have b1 := bnew (w.alloc (.cells #[.string k, .int .i64 0, .int .i64 0, .string v, .bool d] 39)) (.cells #[.int .i64 0, .int .i64 0] 37)
  have B := aside (bthen b0 b1)
  have G0 := aside (blk_on (heap_alloc_new w (.cells #[.string k, .int .i64 0, .int .i64 0, .string v, .bool d] 39)) b1)
  have g1 := heap_alloc_new (w.alloc (.cells #[.string k, .int .i64 0, .int .i64 0, .string v, .bool d] 39)) (.cells #[.int .i64 0, .int .i64 0] 37)
  simp only [World.size_alloc] at g1
  have G1 := aside g1
  have H := aside (h.below B.out)
  obtain ⟨q0, q1, q2, q3, q4, y0, y1, y2, y3, y4⟩ := penta G0.out
  obtain ⟨r0, r1, x0, x1⟩ := pair G1.out
  by_cases h1 : (16 : Int) < k.size
  · have HE := aside (show wrErr k v nd ck Ls = 20 from by unfold wrErr; rw [if_pos h1])
    clear h L hH hl b0 b1 g1 q1 q2 q3 q4 y0 y1 y2 y3 y4
    go_enter Tryd.func33, Tryd.ntmps33
    go_wp2
    refine bodyPost_ret (v := .tuple #[.agg #[.int .i64 0, .int .i64 0], .int .i64 20]) (by simp [results, Tryd.results33, go_sem]) rfl ⟨0, 0, 20, rfl, HE.out.symm, Keeps.of_below B.out _, .inl ⟨by decide, rfl, rfl, H.out⟩⟩
  · by_cases h2 : (32 : Int) < v.size
    · have HE := aside (show wrErr k v nd ck Ls = 31 from by unfold wrErr; rw [if_neg h1, if_pos h2])
      clear h L hH hl b0 b1 g1 q1 q2 q4 y0 y1 y2 y3 y4
      go_enter Tryd.func33, Tryd.ntmps33
      go_wp2
      refine bodyPost_ret (v := .tuple #[.agg #[.int .i64 0, .int .i64 0], .int .i64 31]) (by simp [results, Tryd.results33, go_sem]) rfl ⟨0, 0, 31, rfl, HE.out.symm, Keeps.of_below B.out _, .inl ⟨by decide, rfl, rfl, H.out⟩⟩
    · have CR := aside (fun (W : World) (h : IsSt W sb g tb nd ck T n) => sroom k h hH hl)
      cases h3 : roomB k Ls
      · have HE := aside (show wrErr k v nd ck Ls = 80 from by unfold wrErr; rw [if_neg h1, if_neg h2, if_pos h3])
        rw [h3] at CR
        clear h L hH hl b0 b1 g1 h3 y0 y1 y2 y3 y4
        go_enter Tryd.func33, Tryd.ntmps33
        go_wp2_with fail
        refine (CR.out _ H.out).mono ?_
        rintro e w1 ⟨rfl, b1⟩
        have H1 := aside (H.out.below b1)
        have B1 := aside (bthen B.out b1)
        have G1' := aside (blk_on G1.out b1)
        obtain ⟨s0, s1, z0, z1⟩ := pair G1'.out
        have E := aside (ver_end H1.out (Keeps.of_below B1.out (Of sb g tb)) G1'.out 0 0)
        clear b1 q0 q1 q2 q3 q4 r0 r1 x0 x1 H G0 G1 B
        go_wp2
        refine bodyPost_ret (v := .tuple #[.agg #[.int .i64 0, .int .i64 0], .int .i64 80]) (by simp [results, Tryd.results33, go_sem, s0, s1]) rfl ⟨0, 0, 80, rfl, HE.out.symm, E.out.2, .inl ⟨by decide, rfl, rfl, E.out.1⟩⟩
      · have HE := aside (show wrErr k v nd ck Ls = (Vs.nx ck nd).2.2 from by unfold wrErr; rw [if_neg h1, if_neg h2, if_neg (by rw [h3]; decide)])
        rw [h3] at CR
        exact write_go k v d H.out (L.keep B.out) hH hl B.out G0.out G1.out h1 h2 CR HE q0 q3

end Go.Proofs.YtlgcdcjhflihiaaDoor
namespace Go.Proofs.YtlgcdcjhflihiaaDoor
open Go.RowKit
set_option linter.unusedVariables false

set_option maxHeartbeats 3200000 in
set_option maxRecDepth 100000 in
theorem sput (k v : ByteArray) {Ls : List En} {w : World} {sb g tb : Nat} {nd ck : Int} {T : Tr En Tl} {n : Nat} (h : IsSt w sb g tb nd ck T n) (L : Lanes w) (hH : Hol T Ls) (hl : Ls.length ≤ 1000000) :
    Calls Tryd.prog 15 #[.pointer (some ⟨sb, 0, none⟩), .string k, .string v] w fun r w' => ∃ c m er, r = .returned (.tuple #[.agg #[.int .i64 c, .int .i64 m], .int .i64 er]) ∧ er = wrErr k v nd ck Ls ∧ Keeps (Of sb g tb) w w' ∧
      ((er ≠ 0 ∧ c = 0 ∧ m = 0 ∧ IsSt w' sb g tb nd ck T n) ∨ (er = 0 ∧ c = ck + 1 ∧ m = nd ∧ IsSt w' sb g tb nd (ck + 1) (Tr.put k (wrEn k v false nd ck) (tof (wrEn k v false nd ck)) T) (n + Tr.putC k (wrEn k v false nd ck) (tof (wrEn k v false nd ck)) T))) := by
  have B0 := aside (bnew w (.cells #[.int .i64 0, .int .i64 0] 37))
  have G0 := aside (heap_alloc_new w (.cells #[.int .i64 0, .int .i64 0] 37))
  have H := aside (h.alloc (.cells #[.int .i64 0, .int .i64 0] 37))
  have C := aside (swrite k v false H.out (L.keep B0.out) hH hl)
  clear h L hH hl
  go_enter Tryd.func15, Tryd.ntmps15
  go_wp2_with fail
  refine C.out.mono ?_
  rintro r w1 ⟨c, m, er, rfl, he, k1, hs⟩
  have HE := aside he
  have HS := aside hs
  have K1 := aside ((Keeps.of_below B0.out _).trans k1)
  have G1 := aside (blk_keep G0.out k1 (H.out.not G0.out (by decide) (by decide) (by decide)))
  clear he hs k1 C G0 B0 H
  obtain ⟨s0, s1, z0, z1⟩ := pair G1.out
  go_wp2
  rcases HS.out with ⟨h1, h2, h3, h4⟩ | ⟨h1, h2, h3, h4⟩
  · have E := ver_end (i := 0) h4 K1.out G1.out c m
    exact bodyPost_ret (v := .tuple #[.agg #[.int .i64 c, .int .i64 m], .int .i64 er]) (by simp [results, Tryd.results15, go_sem, s0, s1]) rfl ⟨c, m, er, rfl, HE.out, E.2, .inl ⟨h1, h2, h3, E.1⟩⟩
  · have E := ver_end (i := 0) h4 K1.out G1.out c m
    exact bodyPost_ret (v := .tuple #[.agg #[.int .i64 c, .int .i64 m], .int .i64 er]) (by simp [results, Tryd.results15, go_sem, s0, s1]) rfl ⟨c, m, er, rfl, HE.out, E.2, .inr ⟨h1, h2, h3, E.1⟩⟩

set_option maxHeartbeats 3200000 in
set_option maxRecDepth 100000 in
theorem sdel (k : ByteArray) {Ls : List En} {w : World} {sb g tb : Nat} {nd ck : Int} {T : Tr En Tl} {n : Nat} (h : IsSt w sb g tb nd ck T n) (L : Lanes w) (hH : Hol T Ls) (hl : Ls.length ≤ 1000000) :
    Calls Tryd.prog 16 #[.pointer (some ⟨sb, 0, none⟩), .string k] w fun r w' => ∃ c m er, r = .returned (.tuple #[.agg #[.int .i64 c, .int .i64 m], .int .i64 er]) ∧ er = wrErr k ⟨#[]⟩ nd ck Ls ∧ Keeps (Of sb g tb) w w' ∧
      ((er ≠ 0 ∧ c = 0 ∧ m = 0 ∧ IsSt w' sb g tb nd ck T n) ∨ (er = 0 ∧ c = ck + 1 ∧ m = nd ∧ IsSt w' sb g tb nd (ck + 1) (Tr.put k (wrEn k ⟨#[]⟩ true nd ck) (tof (wrEn k ⟨#[]⟩ true nd ck)) T) (n + Tr.putC k (wrEn k ⟨#[]⟩ true nd ck) (tof (wrEn k ⟨#[]⟩ true nd ck)) T))) := by
  have B0 := aside (bnew w (.cells #[.int .i64 0, .int .i64 0] 37))
  have G0 := aside (heap_alloc_new w (.cells #[.int .i64 0, .int .i64 0] 37))
  have H := aside (h.alloc (.cells #[.int .i64 0, .int .i64 0] 37))
  have C := aside (swrite k ⟨#[]⟩ true H.out (L.keep B0.out) hH hl)
  clear h L hH hl
  go_enter Tryd.func16, Tryd.ntmps16
  go_wp2_with fail
  refine C.out.mono ?_
  rintro r w1 ⟨c, m, er, rfl, he, k1, hs⟩
  have HE := aside he
  have HS := aside hs
  have K1 := aside ((Keeps.of_below B0.out _).trans k1)
  have G1 := aside (blk_keep G0.out k1 (H.out.not G0.out (by decide) (by decide) (by decide)))
  clear he hs k1 C G0 B0 H
  obtain ⟨s0, s1, z0, z1⟩ := pair G1.out
  go_wp2
  rcases HS.out with ⟨h1, h2, h3, h4⟩ | ⟨h1, h2, h3, h4⟩
  · have E := ver_end (i := 0) h4 K1.out G1.out c m
    exact bodyPost_ret (v := .tuple #[.agg #[.int .i64 c, .int .i64 m], .int .i64 er]) (by simp [results, Tryd.results16, go_sem, s0, s1]) rfl ⟨c, m, er, rfl, HE.out, E.2, .inl ⟨h1, h2, h3, E.1⟩⟩
  · have E := ver_end (i := 0) h4 K1.out G1.out c m
    exact bodyPost_ret (v := .tuple #[.agg #[.int .i64 c, .int .i64 m], .int .i64 er]) (by simp [results, Tryd.results16, go_sem, s0, s1]) rfl ⟨c, m, er, rfl, HE.out, E.2, .inr ⟨h1, h2, h3, E.1⟩⟩

/-- What Take does: refused by a number, passed by, or taken. -/
def tkSay (e : En) (Ls : List En) : Int × Bool :=
  if e.chk ≠ 0 then (e.chk, false) else if roomB e.k Ls = false then (80, false) else
    match lookE e.k Ls with
    | none => (0, true)
    | some o => (0, En.newer e o)

theorem old_lay {w X : World} {sb g tb ob : Nat} {nd ck : Int} {T : Tr En Tl} {n : Nat} {cs : Array Value} {x0 x1 x2 x3 x4 : Value} {o : En} (h : IsSt X sb g tb nd ck T n) (b : Below w.heap.size w X) (L : Lanes X) (g0 : X.heap[w.heap.size]? = some (.cells cs 39 (0, 0))) (gv : X.heap[ob]? = some (.cells #[x0, x1, x2, x3, x4] 39 (0, 0))) (hv : w.heap.size < ob) :
    (fun Y : World => IsSt Y sb g tb nd ck T n ∧ Below w.heap.size w Y ∧ Lanes Y ∧ Y.heap[w.heap.size]? = some (.cells cs 39 (0, 0)) ∧ Y.heap[ob]? = some (.cells #[.string o.k, .int .i64 o.c, .int .i64 o.n, .string o.v, .bool o.d] 39 (0, 0))) (setE X ob o) := by
  have hn := h.not gv (by decide) (by decide) (by decide)
  have kk : Keeps (fun x => x = ob) X (setE X ob o) := (Keeps.refl (fun x => x = ob) X).setE (fun _ => rfl) o
  obtain ⟨p, ht, hT⟩ := h.tree
  refine ⟨⟨(setE_other _ _ _ _ (fun e => hn (.inl e.symm))).trans h.blk, fun b' e => (setE_other _ _ _ _ (fun e2 => hn (.inr (.inr (by cases e; exact e2.symm))))).trans (h.cnt b' e), ⟨p, (setE_other _ _ _ _ (fun e => hn (.inr (.inl e.symm)))).trans ht, hT.on ((Stay.refl _ X).keeps kk (fun i cs' hi e => by subst e; rw [gv] at hi; simp at hi))⟩⟩, ?_, L.keeps kk (fun e => ?_), (setE_other _ _ _ _ (by omega)).trans g0, setE_same gv o⟩
  · have k2 : Keeps (fun x => w.heap.size ≤ x) X (setE X ob o) := kk.mono (fun _ _ e => by subst e; omega)
    exact b.trans (k2.below b.size (fun k hk e => by omega))
  · have h3 := L.c5
    rw [show World.cell? X ⟨0, 5, none⟩ = none from by rw [← e] at gv; simp [World.cell?, gv]] at h3
    cases h3

set_option maxHeartbeats 3200000 in
set_option maxRecDepth 100000 in
theorem stake (e : En) {Ls : List En} {w : World} {sb g tb : Nat} {nd ck : Int} {T : Tr En Tl} {n : Nat} (h : IsSt w sb g tb nd ck T n) (L : Lanes w) (hH : Hol T Ls) (hl : Ls.length ≤ 1000000) :
    Calls Tryd.prog 17 #[.pointer (some ⟨sb, 0, none⟩), .agg #[.string e.k, .int .i64 e.c, .int .i64 e.n, .string e.v, .bool e.d]] w fun r w' => r = .returned (.tuple #[.bool (tkSay e Ls).2, .int .i64 (tkSay e Ls).1]) ∧ Keeps (Of sb g tb) w w' ∧
      (((tkSay e Ls).2 = false ∧ IsSt w' sb g tb nd ck T n) ∨ ((tkSay e Ls).2 = true ∧ IsSt w' sb g tb nd (ckm ck e.c) (Tr.put e.k e (tof e) T) (n + Tr.putC e.k e (tof e) T))) := by
  have B0 := aside (bnew w (.cells #[.string e.k, .int .i64 e.c, .int .i64 e.n, .string e.v, .bool e.d] 39))
  have G0 := aside (heap_alloc_new w (.cells #[.string e.k, .int .i64 e.c, .int .i64 e.n, .string e.v, .bool e.d] 39))
  have H := aside (h.alloc (.cells #[.string e.k, .int .i64 e.c, .int .i64 e.n, .string e.v, .bool e.d] 39))
  have LL := aside (L.keep B0.out)
  obtain ⟨q0, q1, q2, q3, q4, -⟩ := penta G0.out
  obtain ⟨c, hc⟩ : ∃ c, e.chk = c := ⟨_, rfl⟩
  have CK := aside (fun (W : World) => ichk_any e.k e.c e.n e.v e.d W)
  rw [show En.chk ⟨e.k, e.c, e.n, e.v, e.d⟩ = c from hc] at CK
  by_cases h0 : c = 0
  · subst h0
    have hkk : e.k.size ≤ 16 := by
      by_cases hx : (16 : Int) < e.k.size
      · unfold En.chk at hc; rw [if_pos hx] at hc; cases hc
      · omega
    have CR := aside (fun (W : World) (h : IsSt W sb g tb nd ck T n) => sroom e.k h hH hl)
    cases h3 : roomB e.k Ls
    · have ht : tkSay e Ls = (80, false) := by unfold tkSay; rw [if_neg (by rw [hc]; decide), if_pos h3]
      have HT := aside ht
      rw [h3] at CR
      clear h L hH hl hc h3 ht
      go_enter Tryd.func17, Tryd.ntmps17
      go_wp2_with fail
      refine (CK.out _).mono ?_
      rintro r w1 ⟨rfl, b1⟩
      have H1 := aside (H.out.below b1)
      have B1 := aside (bthen B0.out b1)
      obtain ⟨p0, -⟩ := penta (blk_on G0.out b1)
      clear b1 q0 q1 q2 q3 q4
      go_wp2_with fail
      refine (CR.out _ H1.out).mono ?_
      rintro r w2 ⟨rfl, b2⟩
      have H2 := aside (H1.out.below b2)
      have B2 := aside (bthen B1.out b2)
      clear b2
      have ht := HT.out
      go_wp2
      go_ret2
      exact ⟨by rw [ht]; rfl, Keeps.of_below B2.out _, .inl ⟨by rw [ht], H2.out⟩⟩
    · rw [h3] at CR
      have CH := aside (fun (W : World) (h : IsSt W sb g tb nd ck T n) (hL : Lanes W) => shold e h hL hH hl (by omega))
      cases hL : lookE e.k Ls with
      | none =>
        have HT := aside (show tkSay e Ls = (0, true) from by unfold tkSay; rw [if_neg (by rw [hc]; decide), if_neg (by rw [h3]; decide), hL])
        obtain ⟨o, ho⟩ : ∃ o, (lookE e.k Ls).getD eNone = o := ⟨_, rfl⟩
        have CG := aside (fun (W : World) (h : TreeE W tb (jvE g) T) => yget_at e.k h hH hl ho (show (lookE e.k Ls).isSome = false from by rw [hL]; rfl))
        clear h L hH hl hc h3 hL ho
        go_enter Tryd.func17, Tryd.ntmps17
        go_wp2_with fail
        refine (CK.out _).mono ?_
        rintro r w0 ⟨rfl, b0⟩
        have H0 := aside (H.out.below b0)
        have B0' := aside (bthen B0.out b0)
        have G00 := aside (blk_on G0.out b0)
        have L0 := aside (LL.out.keep b0)
        obtain ⟨p0, -⟩ := penta G00.out
        clear b0 q0 q1 q2 q3 q4
        go_wp2_with fail
        refine (CR.out _ H0.out).mono ?_
        rintro r w1 ⟨rfl, b1⟩
        have H1 := aside (H0.out.below b1)
        have B1 := aside (bthen B0'.out b1)
        have G01 := aside (blk_on G00.out b1)
        have L1 := aside (L0.out.keep b1)
        clear b1 p0 H0 B0' G00 L0 H B0 G0 LL CK CR
        go_wp2_with fail
        refine wp_region_held_drew (S := fun X => X.cell? ⟨sb, 3, none⟩ = some (.pointer (some ⟨tb, 0, none⟩)) ∧ X.cell? ⟨w.heap.size, 0, none⟩ = some (.string e.k) ∧ X.cell? ⟨w.heap.size, 1, none⟩ = some (.int .i64 e.c) ∧ X.cell? ⟨w.heap.size, 2, none⟩ = some (.int .i64 e.n) ∧ X.cell? ⟨w.heap.size, 3, none⟩ = some (.string e.v) ∧ X.cell? ⟨w.heap.size, 4, none⟩ = some (.bool e.d)) (by kernel_rfl) (held_hold H1.out.drew G01.out) (fun hHeld => ?_)
        refine wpAnyH_take (i := 0) (v := ?_) rfl (by kernel_rfl) (by kernel_rfl) (by kernel_rfl) (fun _ _ _ h => h) (Or.inl ⟨by rfl, ?_⟩) (by assumption) ?_
        rotate_left
        · intro w hSw
          go_simp
          try with_reducible rfl
        simp only [Act.put, List.getElem_toArray, List.getElem_cons_zero, List.setIfInBounds_toArray, List.set_cons_zero, List.set_cons_succ]
        refine wpAnyH_take (i := 1) (v := ?_) rfl (by kernel_rfl) (by kernel_rfl) (by kernel_rfl) (fun _ _ _ h => h) (Or.inl ⟨by rfl, ?_⟩) (by assumption) ?_
        rotate_left
        · intro w hSw
          go_simp
          try with_reducible rfl
        simp only [Act.put, List.getElem_toArray, List.getElem_cons_zero, List.getElem_cons_succ, List.setIfInBounds_toArray, List.set_cons_zero, List.set_cons_succ]
        refine wpAnyH_take (i := 2) (v := ?_) rfl (by kernel_rfl) (by kernel_rfl) (by kernel_rfl) (fun _ _ _ h => h) (Or.inl ⟨by rfl, ?_⟩) (by assumption) ?_
        rotate_left
        · intro w hSw
          go_simp
          try with_reducible rfl
        simp only [Act.put, List.getElem_toArray, List.getElem_cons_zero, List.getElem_cons_succ, List.setIfInBounds_toArray, List.set_cons_zero, List.set_cons_succ]
        refine wpAnyH_take (i := 3) (v := ?_) rfl (by kernel_rfl) (by kernel_rfl) (by kernel_rfl) (fun _ _ _ h => h) (Or.inl ⟨by rfl, ?_⟩) (by assumption) ?_
        rotate_left
        · intro w hSw
          go_simp
          try with_reducible rfl
        simp only [Act.put, List.getElem_toArray, List.getElem_cons_zero, List.getElem_cons_succ, List.setIfInBounds_toArray, List.set_cons_zero, List.set_cons_succ]
        refine wpAnyH_take (i := 4) (v := ?_) rfl (by kernel_rfl) (by kernel_rfl) (by kernel_rfl) (fun _ _ _ h => h) (Or.inl ⟨by rfl, ?_⟩) (by assumption) ?_
        rotate_left
        · intro w hSw
          go_simp
          try with_reducible rfl
        simp only [Act.put, List.getElem_toArray, List.getElem_cons_zero, List.getElem_cons_succ, List.setIfInBounds_toArray, List.set_cons_zero, List.set_cons_succ]
        refine wpAnyH_take (i := 5) (v := ?_) rfl (by kernel_rfl) (by kernel_rfl) (by kernel_rfl) (fun _ _ _ h => h) (Or.inl ⟨by rfl, ?_⟩) (by assumption) ?_
        rotate_left
        · intro w hSw
          go_simp
          try with_reducible rfl
        simp only [Act.put, List.getElem_toArray, List.getElem_cons_zero, List.getElem_cons_succ, List.setIfInBounds_toArray, List.set_cons_zero, List.set_cons_succ]
        refine wpAnyH_ready (rs := [6, 10]) (by kernel_rfl) (by simp) ?_
        refine AllReadyH.cons rfl (fun K hK => ?_) (AllReadyH.cons rfl (fun K hK => ?_) AllReadyH.nil)
        · go_simp
          refine (CG.out _ H1.out.drew.tree).mono ?_
          rintro r w9 ⟨rfl, bb⟩
          have HX := aside (H1.out.drew.below bb)
          have G0X := aside (blk_on (show w1.drew.heap[w.heap.size]? = some _ from G01.out) bb)
          refine hK.out _ _ (held_hold HX.out G0X.out) (fun hHeld => ?_)
          clear hK K
          have H2 := aside (HX.out.alloc (.cells #[.string o.k, .int .i64 o.c, .int .i64 o.n, .string o.v, .bool o.d] 39))
          have B2 := aside (bthen (bthen B1.out.drew bb) (bnew _ (.cells #[.string o.k, .int .i64 o.c, .int .i64 o.n, .string o.v, .bool o.d] 39)))
          have G02 := aside (blk_on G0X.out (bnew _ (.cells #[.string o.k, .int .i64 o.c, .int .i64 o.n, .string o.v, .bool o.d] 39)))
          have L2 := aside ((L1.out.drew.keep bb).keep (bnew _ (.cells #[.string o.k, .int .i64 o.c, .int .i64 o.n, .string o.v, .bool o.d] 39)))
          have GO := aside (heap_alloc_new w9 (.cells #[.string o.k, .int .i64 o.c, .int .i64 o.n, .string o.v, .bool o.d] 39))
          clear bb
          refine wpAnyH_take (i := 7) (v := ?_) rfl (by kernel_rfl) (by kernel_rfl) (by kernel_rfl) (fun _ _ _ h => h) (Or.inl ⟨by rfl, ?_⟩) (by assumption) ?_
          rotate_left
          · intro w hSw
            go_simp
            try with_reducible rfl
          simp only [Act.put, List.getElem_toArray, List.getElem_cons_zero, List.getElem_cons_succ, List.setIfInBounds_toArray, List.set_cons_zero, List.set_cons_succ]
          refine wpAnyH_take (i := 8) (v := ?_) rfl (by kernel_rfl) (by kernel_rfl) (by kernel_rfl) (fun _ _ _ h => h) (Or.inl ⟨by rfl, ?_⟩) (by assumption) ?_
          rotate_left
          · intro w hSw
            go_simp
            try with_reducible rfl
          simp only [Act.put, List.getElem_toArray, List.getElem_cons_zero, List.getElem_cons_succ, List.setIfInBounds_toArray, List.set_cons_zero, List.set_cons_succ]
          refine wpAnyH_take (i := 9) (v := ?_) rfl (by kernel_rfl) (by kernel_rfl) (by kernel_rfl) (fun _ _ _ h => h) (Or.inl ⟨by rfl, ?_⟩) (by assumption) ?_
          rotate_left
          · intro w hSw
            go_simp
            try with_reducible rfl
          simp only [Act.put, List.getElem_toArray, List.getElem_cons_zero, List.getElem_cons_succ, List.setIfInBounds_toArray, List.set_cons_zero, List.set_cons_succ]
          refine wpAnyH_ready (rs := [10]) (by kernel_rfl) (by simp) ?_
          refine AllReadyH.cons rfl (fun K hK => ?_) AllReadyH.nil
          go_simp
          refine hK.out _ _ (held_hold (HX.out.alloc _) (blk_on G0X.out (bnew _ _))) (fun hHeld => ?_)
          clear hK K 
          refine wpAnyH_ready (rs := [11]) (by kernel_rfl) (by simp) ?_
          refine AllReadyH.cons rfl (fun K hK => ?_) AllReadyH.nil
          go_simp
          refine hK.out _ _ (held_hold (HX.out.alloc _) (blk_on G0X.out (bnew _ _))) (fun hHeld => ?_)
          clear hK K 
          refine wpAnyH_take (i := 12) (v := ?_) rfl (by kernel_rfl) (by kernel_rfl) (by kernel_rfl) (fun _ _ _ h => h) (Or.inl ⟨by rfl, ?_⟩) (by assumption) ?_
          rotate_left
          · intro w hSw
            go_simp
            try with_reducible rfl
          simp only [Act.put, List.getElem_toArray, List.getElem_cons_zero, List.getElem_cons_succ, List.setIfInBounds_toArray, List.set_cons_zero, List.set_cons_succ]
          refine wpAnyH_done (by kernel_rfl) ?_ _
          clear hHeld HX G0X H1 B1 G01 L1 CG
          generalize w9.alloc (.cells #[.string o.k, .int .i64 o.c, .int .i64 o.n, .string o.v, .bool o.d] 39) = X at *
          generalize w9.heap.size = ob at *
          obtain ⟨q0, q1, q2, q3, q4, -⟩ := penta G02.out
          obtain ⟨o0, o1, o2, o3, o4, -⟩ := penta GO.out
          have ht := HT.out
          go_wp2_with fail
          refine (CH.out _ H2.out L2.out).mono ?_
          rintro r w5 ⟨rfl, h5, k5⟩
          have H5 := aside h5
          have K5 := aside ((Keeps.of_below B2.out _).trans k5)
          clear h5 k5 q0 q1 q2 q3 q4 o0 o1 o2 o3 o4
          go_wp2
          go_ret2
          exact ⟨by rw [ht]; rfl, K5.out, .inr ⟨by rw [ht], H5.out⟩⟩
        · go_simp
          refine hK.out _ _ (held_hold (H1.out.alloc _).drew (show (w1.alloc (.cells #[.string ⟨#[]⟩, .int .i64 0, .int .i64 0, .string ⟨#[]⟩, .bool false] 39)).drew.heap[w.heap.size]? = some _ from blk_on G01.out (bnew _ _).drew)) (fun hHeld => ?_)
          clear hK K
          have HX := aside (H1.out.alloc (.cells #[.string ⟨#[]⟩, .int .i64 0, .int .i64 0, .string ⟨#[]⟩, .bool false] 39)).drew
          have GX := aside (show (w1.alloc (.cells #[.string ⟨#[]⟩, .int .i64 0, .int .i64 0, .string ⟨#[]⟩, .bool false] 39)).drew.heap[w1.heap.size]? = some (.cells #[.string ⟨#[]⟩, .int .i64 0, .int .i64 0, .string ⟨#[]⟩, .bool false] 39 (0, 0)) from heap_alloc_new w1 _)
          have BX := aside (bthen B1.out (bnew _ (.cells #[.string ⟨#[]⟩, .int .i64 0, .int .i64 0, .string ⟨#[]⟩, .bool false] 39))).drew
          have G0X := aside (show (w1.alloc (.cells #[.string ⟨#[]⟩, .int .i64 0, .int .i64 0, .string ⟨#[]⟩, .bool false] 39)).drew.heap[w.heap.size]? = some _ from blk_on G01.out (bnew _ _).drew)
          have LX := aside (L1.out.keep (bnew _ (.cells #[.string ⟨#[]⟩, .int .i64 0, .int .i64 0, .string ⟨#[]⟩, .bool false] 39))).drew
          have HV := aside (show w.heap.size < w1.heap.size from lt_of_blk G01.out)
          clear H1 B1 G01 L1
          generalize w1.heap.size = ob at *
          refine wpAnyH_ready (rs := [6]) (by kernel_rfl) (by simp) ?_
          refine AllReadyH.cons rfl (fun K hK => ?_) AllReadyH.nil
          go_simp
          refine (CG.out _ HX.out.tree).mono ?_
          rintro e w9 ⟨rfl, bb⟩
          refine hK.out _ _ (held_hold (HX.out.below bb) (blk_on G0X.out bb)) (fun hHeld => ?_)
          clear hK K 
          have HY := aside (HX.out.below bb)
          have GY := aside (blk_on GX.out bb)
          have BY := aside (BX.out.trans (bb.mono BX.out.size))
          have G0Y := aside (blk_on G0X.out bb)
          have LY := aside (LX.out.keep bb)
          clear bb
          refine wpAnyH_take (i := 7) (v := ?_) rfl (by kernel_rfl) (by kernel_rfl) (by kernel_rfl) (fun _ _ _ h => h) (Or.inl ⟨by rfl, ?_⟩) (by assumption) ?_
          rotate_left
          · intro w hSw
            go_simp
            try with_reducible rfl
          simp only [Act.put, List.getElem_toArray, List.getElem_cons_zero, List.getElem_cons_succ, List.setIfInBounds_toArray, List.set_cons_zero, List.set_cons_succ]
          refine wpAnyH_take (i := 8) (v := ?_) rfl (by kernel_rfl) (by kernel_rfl) (by kernel_rfl) (fun _ _ _ h => h) (Or.inl ⟨by rfl, ?_⟩) (by assumption) ?_
          rotate_left
          · intro w hSw
            go_simp
            try with_reducible rfl
          simp only [Act.put, List.getElem_toArray, List.getElem_cons_zero, List.getElem_cons_succ, List.setIfInBounds_toArray, List.set_cons_zero, List.set_cons_succ]
          refine wpAnyH_take (i := 9) (v := ?_) rfl (by kernel_rfl) (by kernel_rfl) (by kernel_rfl) (fun _ _ _ h => h) (Or.inl ⟨by rfl, ?_⟩) (by assumption) ?_
          rotate_left
          · intro w hSw
            go_simp
            try with_reducible rfl
          simp only [Act.put, List.getElem_toArray, List.getElem_cons_zero, List.getElem_cons_succ, List.setIfInBounds_toArray, List.set_cons_zero, List.set_cons_succ]
          obtain ⟨u0, u1, u2, u3, u4, z0, z1, z2, z3, z4⟩ := penta GY.out
          have E9 := aside (old_lay (o := o) HY.out BY.out LY.out G0Y.out GY.out HV.out)
          unfold setE at E9
          refine wpAnyH_ready (rs := [11]) (by kernel_rfl) (by simp) ?_
          refine AllReadyH.cons rfl (fun K hK => ?_) AllReadyH.nil
          go_simp
          refine hK.out _ _ (held_hold E9.out.1 E9.out.2.2.2.1) (fun hHeld => ?_)
          clear hK K 
          refine wpAnyH_take (i := 12) (v := ?_) rfl (by kernel_rfl) (by kernel_rfl) (by kernel_rfl) (fun _ _ _ h => h) (Or.inl ⟨by rfl, ?_⟩) (by assumption) ?_
          rotate_left
          · intro w hSw
            go_simp
            try with_reducible rfl
          simp only [Act.put, List.getElem_toArray, List.getElem_cons_zero, List.getElem_cons_succ, List.setIfInBounds_toArray, List.set_cons_zero, List.set_cons_succ]
          refine wpAnyH_done (by kernel_rfl) ?_ _
          clear hHeld u0 u1 u2 u3 u4 z0 z1 z2 z3 z4 HX GX BX G0X LX HY GY BY G0Y LY CG
          generalize ((((w9.setCell ⟨ob, 0, none⟩ (.string o.k)).setCell ⟨ob, 1, none⟩ (.int .i64 o.c)).setCell ⟨ob, 2, none⟩ (.int .i64 o.n)).setCell ⟨ob, 3, none⟩ (.string o.v)).setCell ⟨ob, 4, none⟩ (.bool o.d) = X at *
          obtain ⟨H2', B2', L2', G02', GO'⟩ := E9.out
          have H2 := aside H2'
          have B2 := aside B2'
          have L2 := aside L2'
          have G02 := aside G02'
          have GO := aside GO'
          clear H2' B2' L2' G02' GO' E9
          obtain ⟨q0, q1, q2, q3, q4, -⟩ := penta G02.out
          obtain ⟨o0, o1, o2, o3, o4, -⟩ := penta GO.out
          have ht := HT.out
          go_wp2_with fail
          refine (CH.out _ H2.out L2.out).mono ?_
          rintro r w5 ⟨rfl, h5, k5⟩
          have H5 := aside h5
          have K5 := aside ((Keeps.of_below B2.out _).trans k5)
          clear h5 k5 q0 q1 q2 q3 q4 o0 o1 o2 o3 o4
          go_wp2
          go_ret2
          exact ⟨by rw [ht]; rfl, K5.out, .inr ⟨by rw [ht], H5.out⟩⟩

      | some o =>
        obtain ⟨nw, hnw⟩ : ∃ nw, En.newer e o = nw := ⟨_, rfl⟩
        have HT := aside (show tkSay e Ls = (0, nw) from by unfold tkSay; rw [if_neg (by rw [hc]; decide), if_neg (by rw [h3]; decide), hL]; simp only [hnw])
        have CG := aside (fun (W : World) (h : TreeE W tb (jvE g) T) => yget_at (o := o) e.k h hH hl (by rw [hL]; rfl) (show (lookE e.k Ls).isSome = true from by rw [hL]; rfl))
        have CW := aside (fun (W : World) => newer_any e.k e.c e.n e.v e.d o.k o.c o.n o.v o.d nw W hnw)
        clear h L hH hl hc h3 hL hnw
        go_enter Tryd.func17, Tryd.ntmps17
        go_wp2_with fail
        refine (CK.out _).mono ?_
        rintro r w0 ⟨rfl, b0⟩
        have H0 := aside (H.out.below b0)
        have B0' := aside (bthen B0.out b0)
        have G00 := aside (blk_on G0.out b0)
        have L0 := aside (LL.out.keep b0)
        obtain ⟨p0, -⟩ := penta G00.out
        clear b0 q0 q1 q2 q3 q4
        go_wp2_with fail
        refine (CR.out _ H0.out).mono ?_
        rintro r w1 ⟨rfl, b1⟩
        have H1 := aside (H0.out.below b1)
        have B1 := aside (bthen B0'.out b1)
        have G01 := aside (blk_on G00.out b1)
        have L1 := aside (L0.out.keep b1)
        clear b1 p0 H0 B0' G00 L0 H B0 G0 LL CK CR
        go_wp2_with fail
        refine wp_region_held_drew (S := fun X => X.cell? ⟨sb, 3, none⟩ = some (.pointer (some ⟨tb, 0, none⟩)) ∧ X.cell? ⟨w.heap.size, 0, none⟩ = some (.string e.k) ∧ X.cell? ⟨w.heap.size, 1, none⟩ = some (.int .i64 e.c) ∧ X.cell? ⟨w.heap.size, 2, none⟩ = some (.int .i64 e.n) ∧ X.cell? ⟨w.heap.size, 3, none⟩ = some (.string e.v) ∧ X.cell? ⟨w.heap.size, 4, none⟩ = some (.bool e.d)) (by kernel_rfl) (held_hold H1.out.drew G01.out) (fun hHeld => ?_)
        refine wpAnyH_take (i := 0) (v := ?_) rfl (by kernel_rfl) (by kernel_rfl) (by kernel_rfl) (fun _ _ _ h => h) (Or.inl ⟨by rfl, ?_⟩) (by assumption) ?_
        rotate_left
        · intro w hSw
          go_simp
          try with_reducible rfl
        simp only [Act.put, List.getElem_toArray, List.getElem_cons_zero, List.setIfInBounds_toArray, List.set_cons_zero, List.set_cons_succ]
        refine wpAnyH_take (i := 1) (v := ?_) rfl (by kernel_rfl) (by kernel_rfl) (by kernel_rfl) (fun _ _ _ h => h) (Or.inl ⟨by rfl, ?_⟩) (by assumption) ?_
        rotate_left
        · intro w hSw
          go_simp
          try with_reducible rfl
        simp only [Act.put, List.getElem_toArray, List.getElem_cons_zero, List.getElem_cons_succ, List.setIfInBounds_toArray, List.set_cons_zero, List.set_cons_succ]
        refine wpAnyH_take (i := 2) (v := ?_) rfl (by kernel_rfl) (by kernel_rfl) (by kernel_rfl) (fun _ _ _ h => h) (Or.inl ⟨by rfl, ?_⟩) (by assumption) ?_
        rotate_left
        · intro w hSw
          go_simp
          try with_reducible rfl
        simp only [Act.put, List.getElem_toArray, List.getElem_cons_zero, List.getElem_cons_succ, List.setIfInBounds_toArray, List.set_cons_zero, List.set_cons_succ]
        refine wpAnyH_take (i := 3) (v := ?_) rfl (by kernel_rfl) (by kernel_rfl) (by kernel_rfl) (fun _ _ _ h => h) (Or.inl ⟨by rfl, ?_⟩) (by assumption) ?_
        rotate_left
        · intro w hSw
          go_simp
          try with_reducible rfl
        simp only [Act.put, List.getElem_toArray, List.getElem_cons_zero, List.getElem_cons_succ, List.setIfInBounds_toArray, List.set_cons_zero, List.set_cons_succ]
        refine wpAnyH_take (i := 4) (v := ?_) rfl (by kernel_rfl) (by kernel_rfl) (by kernel_rfl) (fun _ _ _ h => h) (Or.inl ⟨by rfl, ?_⟩) (by assumption) ?_
        rotate_left
        · intro w hSw
          go_simp
          try with_reducible rfl
        simp only [Act.put, List.getElem_toArray, List.getElem_cons_zero, List.getElem_cons_succ, List.setIfInBounds_toArray, List.set_cons_zero, List.set_cons_succ]
        refine wpAnyH_take (i := 5) (v := ?_) rfl (by kernel_rfl) (by kernel_rfl) (by kernel_rfl) (fun _ _ _ h => h) (Or.inl ⟨by rfl, ?_⟩) (by assumption) ?_
        rotate_left
        · intro w hSw
          go_simp
          try with_reducible rfl
        simp only [Act.put, List.getElem_toArray, List.getElem_cons_zero, List.getElem_cons_succ, List.setIfInBounds_toArray, List.set_cons_zero, List.set_cons_succ]
        refine wpAnyH_ready (rs := [6, 10]) (by kernel_rfl) (by simp) ?_
        refine AllReadyH.cons rfl (fun K hK => ?_) (AllReadyH.cons rfl (fun K hK => ?_) AllReadyH.nil)
        · go_simp
          refine (CG.out _ H1.out.drew.tree).mono ?_
          rintro r w9 ⟨rfl, bb⟩
          have HX := aside (H1.out.drew.below bb)
          have G0X := aside (blk_on (show w1.drew.heap[w.heap.size]? = some _ from G01.out) bb)
          refine hK.out _ _ (held_hold HX.out G0X.out) (fun hHeld => ?_)
          clear hK K
          have H2 := aside (HX.out.alloc (.cells #[.string o.k, .int .i64 o.c, .int .i64 o.n, .string o.v, .bool o.d] 39))
          have B2 := aside (bthen (bthen B1.out.drew bb) (bnew _ (.cells #[.string o.k, .int .i64 o.c, .int .i64 o.n, .string o.v, .bool o.d] 39)))
          have G02 := aside (blk_on G0X.out (bnew _ (.cells #[.string o.k, .int .i64 o.c, .int .i64 o.n, .string o.v, .bool o.d] 39)))
          have L2 := aside ((L1.out.drew.keep bb).keep (bnew _ (.cells #[.string o.k, .int .i64 o.c, .int .i64 o.n, .string o.v, .bool o.d] 39)))
          have GO := aside (heap_alloc_new w9 (.cells #[.string o.k, .int .i64 o.c, .int .i64 o.n, .string o.v, .bool o.d] 39))
          clear bb
          refine wpAnyH_take (i := 7) (v := ?_) rfl (by kernel_rfl) (by kernel_rfl) (by kernel_rfl) (fun _ _ _ h => h) (Or.inl ⟨by rfl, ?_⟩) (by assumption) ?_
          rotate_left
          · intro w hSw
            go_simp
            try with_reducible rfl
          simp only [Act.put, List.getElem_toArray, List.getElem_cons_zero, List.getElem_cons_succ, List.setIfInBounds_toArray, List.set_cons_zero, List.set_cons_succ]
          refine wpAnyH_take (i := 8) (v := ?_) rfl (by kernel_rfl) (by kernel_rfl) (by kernel_rfl) (fun _ _ _ h => h) (Or.inl ⟨by rfl, ?_⟩) (by assumption) ?_
          rotate_left
          · intro w hSw
            go_simp
            try with_reducible rfl
          simp only [Act.put, List.getElem_toArray, List.getElem_cons_zero, List.getElem_cons_succ, List.setIfInBounds_toArray, List.set_cons_zero, List.set_cons_succ]
          refine wpAnyH_take (i := 9) (v := ?_) rfl (by kernel_rfl) (by kernel_rfl) (by kernel_rfl) (fun _ _ _ h => h) (Or.inl ⟨by rfl, ?_⟩) (by assumption) ?_
          rotate_left
          · intro w hSw
            go_simp
            try with_reducible rfl
          simp only [Act.put, List.getElem_toArray, List.getElem_cons_zero, List.getElem_cons_succ, List.setIfInBounds_toArray, List.set_cons_zero, List.set_cons_succ]
          refine wpAnyH_ready (rs := [10]) (by kernel_rfl) (by simp) ?_
          refine AllReadyH.cons rfl (fun K hK => ?_) AllReadyH.nil
          go_simp
          refine hK.out _ _ (held_hold (HX.out.alloc _) (blk_on G0X.out (bnew _ _))) (fun hHeld => ?_)
          clear hK K 
          refine wpAnyH_ready (rs := [11]) (by kernel_rfl) (by simp) ?_
          refine AllReadyH.cons rfl (fun K hK => ?_) AllReadyH.nil
          go_simp
          refine hK.out _ _ (held_hold (HX.out.alloc _) (blk_on G0X.out (bnew _ _))) (fun hHeld => ?_)
          clear hK K 
          refine wpAnyH_take (i := 12) (v := ?_) rfl (by kernel_rfl) (by kernel_rfl) (by kernel_rfl) (fun _ _ _ h => h) (Or.inl ⟨by rfl, ?_⟩) (by assumption) ?_
          rotate_left
          · intro w hSw
            go_simp
            try with_reducible rfl
          simp only [Act.put, List.getElem_toArray, List.getElem_cons_zero, List.getElem_cons_succ, List.setIfInBounds_toArray, List.set_cons_zero, List.set_cons_succ]
          refine wpAnyH_done (by kernel_rfl) ?_ _
          clear hHeld HX G0X H1 B1 G01 L1 CG
          generalize w9.alloc (.cells #[.string o.k, .int .i64 o.c, .int .i64 o.n, .string o.v, .bool o.d] 39) = X at *
          generalize w9.heap.size = ob at *
          obtain ⟨q0, q1, q2, q3, q4, -⟩ := penta G02.out
          obtain ⟨o0, o1, o2, o3, o4, -⟩ := penta GO.out
          go_wp2_with fail
          refine (CW.out _).mono ?_
          rintro r w4 ⟨rfl, b4⟩
          have H4 := aside (H2.out.below b4)
          have B4 := aside (bthen B2.out b4)
          have L4 := aside (L2.out.keep b4)
          obtain ⟨p0, p1, p2, p3, p4, -⟩ := penta (blk_on G02.out b4)
          clear b4 q0 q1 q2 q3 q4 o0 o1 o2 o3 o4
          cases nw with
          | false =>
            have ht := HT.out
            go_wp2
            go_ret2
            exact ⟨by rw [ht]; rfl, Keeps.of_below B4.out _, .inl ⟨by rw [ht], H4.out⟩⟩
          | true =>
            have ht := HT.out
            go_wp2_with fail
            refine (CH.out _ H4.out L4.out).mono ?_
            rintro r w5 ⟨rfl, h5, k5⟩
            have H5 := aside h5
            have K5 := aside ((Keeps.of_below B4.out _).trans k5)
            clear h5 k5
            go_wp2
            go_ret2
            exact ⟨by rw [ht]; rfl, K5.out, .inr ⟨by rw [ht], H5.out⟩⟩
        · go_simp
          refine hK.out _ _ (held_hold (H1.out.alloc _).drew (show (w1.alloc (.cells #[.string ⟨#[]⟩, .int .i64 0, .int .i64 0, .string ⟨#[]⟩, .bool false] 39)).drew.heap[w.heap.size]? = some _ from blk_on G01.out (bnew _ _).drew)) (fun hHeld => ?_)
          clear hK K
          have HX := aside (H1.out.alloc (.cells #[.string ⟨#[]⟩, .int .i64 0, .int .i64 0, .string ⟨#[]⟩, .bool false] 39)).drew
          have GX := aside (show (w1.alloc (.cells #[.string ⟨#[]⟩, .int .i64 0, .int .i64 0, .string ⟨#[]⟩, .bool false] 39)).drew.heap[w1.heap.size]? = some (.cells #[.string ⟨#[]⟩, .int .i64 0, .int .i64 0, .string ⟨#[]⟩, .bool false] 39 (0, 0)) from heap_alloc_new w1 _)
          have BX := aside (bthen B1.out (bnew _ (.cells #[.string ⟨#[]⟩, .int .i64 0, .int .i64 0, .string ⟨#[]⟩, .bool false] 39))).drew
          have G0X := aside (show (w1.alloc (.cells #[.string ⟨#[]⟩, .int .i64 0, .int .i64 0, .string ⟨#[]⟩, .bool false] 39)).drew.heap[w.heap.size]? = some _ from blk_on G01.out (bnew _ _).drew)
          have LX := aside (L1.out.keep (bnew _ (.cells #[.string ⟨#[]⟩, .int .i64 0, .int .i64 0, .string ⟨#[]⟩, .bool false] 39))).drew
          have HV := aside (show w.heap.size < w1.heap.size from lt_of_blk G01.out)
          clear H1 B1 G01 L1
          generalize w1.heap.size = ob at *
          refine wpAnyH_ready (rs := [6]) (by kernel_rfl) (by simp) ?_
          refine AllReadyH.cons rfl (fun K hK => ?_) AllReadyH.nil
          go_simp
          refine (CG.out _ HX.out.tree).mono ?_
          rintro e w9 ⟨rfl, bb⟩
          refine hK.out _ _ (held_hold (HX.out.below bb) (blk_on G0X.out bb)) (fun hHeld => ?_)
          clear hK K 
          have HY := aside (HX.out.below bb)
          have GY := aside (blk_on GX.out bb)
          have BY := aside (BX.out.trans (bb.mono BX.out.size))
          have G0Y := aside (blk_on G0X.out bb)
          have LY := aside (LX.out.keep bb)
          clear bb
          refine wpAnyH_take (i := 7) (v := ?_) rfl (by kernel_rfl) (by kernel_rfl) (by kernel_rfl) (fun _ _ _ h => h) (Or.inl ⟨by rfl, ?_⟩) (by assumption) ?_
          rotate_left
          · intro w hSw
            go_simp
            try with_reducible rfl
          simp only [Act.put, List.getElem_toArray, List.getElem_cons_zero, List.getElem_cons_succ, List.setIfInBounds_toArray, List.set_cons_zero, List.set_cons_succ]
          refine wpAnyH_take (i := 8) (v := ?_) rfl (by kernel_rfl) (by kernel_rfl) (by kernel_rfl) (fun _ _ _ h => h) (Or.inl ⟨by rfl, ?_⟩) (by assumption) ?_
          rotate_left
          · intro w hSw
            go_simp
            try with_reducible rfl
          simp only [Act.put, List.getElem_toArray, List.getElem_cons_zero, List.getElem_cons_succ, List.setIfInBounds_toArray, List.set_cons_zero, List.set_cons_succ]
          refine wpAnyH_take (i := 9) (v := ?_) rfl (by kernel_rfl) (by kernel_rfl) (by kernel_rfl) (fun _ _ _ h => h) (Or.inl ⟨by rfl, ?_⟩) (by assumption) ?_
          rotate_left
          · intro w hSw
            go_simp
            try with_reducible rfl
          simp only [Act.put, List.getElem_toArray, List.getElem_cons_zero, List.getElem_cons_succ, List.setIfInBounds_toArray, List.set_cons_zero, List.set_cons_succ]
          obtain ⟨u0, u1, u2, u3, u4, z0, z1, z2, z3, z4⟩ := penta GY.out
          have E9 := aside (old_lay (o := o) HY.out BY.out LY.out G0Y.out GY.out HV.out)
          unfold setE at E9
          refine wpAnyH_ready (rs := [11]) (by kernel_rfl) (by simp) ?_
          refine AllReadyH.cons rfl (fun K hK => ?_) AllReadyH.nil
          go_simp
          refine hK.out _ _ (held_hold E9.out.1 E9.out.2.2.2.1) (fun hHeld => ?_)
          clear hK K 
          refine wpAnyH_take (i := 12) (v := ?_) rfl (by kernel_rfl) (by kernel_rfl) (by kernel_rfl) (fun _ _ _ h => h) (Or.inl ⟨by rfl, ?_⟩) (by assumption) ?_
          rotate_left
          · intro w hSw
            go_simp
            try with_reducible rfl
          simp only [Act.put, List.getElem_toArray, List.getElem_cons_zero, List.getElem_cons_succ, List.setIfInBounds_toArray, List.set_cons_zero, List.set_cons_succ]
          refine wpAnyH_done (by kernel_rfl) ?_ _
          clear hHeld u0 u1 u2 u3 u4 z0 z1 z2 z3 z4 HX GX BX G0X LX HY GY BY G0Y LY CG
          generalize ((((w9.setCell ⟨ob, 0, none⟩ (.string o.k)).setCell ⟨ob, 1, none⟩ (.int .i64 o.c)).setCell ⟨ob, 2, none⟩ (.int .i64 o.n)).setCell ⟨ob, 3, none⟩ (.string o.v)).setCell ⟨ob, 4, none⟩ (.bool o.d) = X at *
          obtain ⟨H2', B2', L2', G02', GO'⟩ := E9.out
          have H2 := aside H2'
          have B2 := aside B2'
          have L2 := aside L2'
          have G02 := aside G02'
          have GO := aside GO'
          clear H2' B2' L2' G02' GO' E9
          obtain ⟨q0, q1, q2, q3, q4, -⟩ := penta G02.out
          obtain ⟨o0, o1, o2, o3, o4, -⟩ := penta GO.out
          go_wp2_with fail
          refine (CW.out _).mono ?_
          rintro r w4 ⟨rfl, b4⟩
          have H4 := aside (H2.out.below b4)
          have B4 := aside (bthen B2.out b4)
          have L4 := aside (L2.out.keep b4)
          obtain ⟨p0, p1, p2, p3, p4, -⟩ := penta (blk_on G02.out b4)
          clear b4 q0 q1 q2 q3 q4 o0 o1 o2 o3 o4
          cases nw with
          | false =>
            have ht := HT.out
            go_wp2
            go_ret2
            exact ⟨by rw [ht]; rfl, Keeps.of_below B4.out _, .inl ⟨by rw [ht], H4.out⟩⟩
          | true =>
            have ht := HT.out
            go_wp2_with fail
            refine (CH.out _ H4.out L4.out).mono ?_
            rintro r w5 ⟨rfl, h5, k5⟩
            have H5 := aside h5
            have K5 := aside ((Keeps.of_below B4.out _).trans k5)
            clear h5 k5
            go_wp2
            go_ret2
            exact ⟨by rw [ht]; rfl, K5.out, .inr ⟨by rw [ht], H5.out⟩⟩

  · have ht : tkSay e Ls = (c, false) := by unfold tkSay; rw [if_pos (by rw [hc]; exact h0), hc]
    have h0' : (c == 0) = false := beq_eq_false_iff_ne.2 h0
    have HT := aside ht
    clear h L hH hl hc h0 ht
    go_enter Tryd.func17, Tryd.ntmps17
    go_wp2_with fail
    refine (CK.out _).mono ?_
    rintro r w1 ⟨rfl, b1⟩
    have H1 := aside (H.out.below b1)
    have B1 := aside (bthen B0.out b1)
    clear b1 q0 q1 q2 q3 q4
    have ht := HT.out
    go_wp2
    go_ret2
    exact ⟨by rw [ht]; rfl, Keeps.of_below B1.out _, .inl ⟨by rw [ht], H1.out⟩⟩

end Go.Proofs.YtlgcdcjhflihiaaDoor
namespace Go.Proofs.YtlgcdcjhflihiaaDoor
open Go.RowKit
set_option linter.unusedVariables false

set_option maxHeartbeats 3200000 in
set_option maxRecDepth 100000 in
theorem sloadNil (nd : Int) (w : World) : Calls Tryd.prog 31 #[.int .i64 nd, .int .i64 0, .slice none 0 0] w fun e w' => Below w.heap.size w w' ∧
      ((nodeB nd = false ∧ e = .returned (.tuple #[.pointer none, .int .i64 1])) ∨ (nodeB nd = true ∧ ∃ sb g tb, e = .returned (.tuple #[.pointer (some ⟨sb, 0, none⟩), .int .i64 0]) ∧ IsSt w' sb g tb nd 0 .nil 0 ∧ w.heap.size ≤ sb ∧ w.heap.size ≤ g ∧ w.heap.size ≤ tb)) := by
  by_cases h1 : nd < 0
  · have HB := aside (node_no1 h1)
    go_enter Tryd.func31, Tryd.ntmps31
    go_wp2
    go_ret2
    exact ⟨Below.refl _ _, .inl ⟨HB.out, rfl⟩⟩
  · by_cases h2 : 8 ≤ nd
    · have HB := aside (node_no2 h2)
      go_enter Tryd.func31, Tryd.ntmps31
      go_wp2
      go_ret2
      exact ⟨Below.refl _ _, .inl ⟨HB.out, rfl⟩⟩
    · have HB := aside (node_yes h1 h2)
      have C := aside (sempty nd 0 w)
      go_enter Tryd.func31, Tryd.ntmps31
      go_wp2_with fail
      refine C.out.mono ?_
      rintro e w1 ⟨sb, g, tb, rfl, hs, b1, l1, l2, l3⟩
      have HS := aside hs
      have B1 := aside b1
      have HL := aside (show w.heap.size ≤ sb ∧ w.heap.size ≤ g ∧ w.heap.size ≤ tb from ⟨l1, l2, l3⟩)
      clear hs b1 l1 l2 l3 C
      go_wp2
      go_loopw [36] (fun i wr => i = .int .i64 0 ∧ wr = w1) (fun _ _ => 0)
      case atStart => exact ⟨rfl, rfl⟩
      case round =>
        obtain ⟨rfl, rfl⟩ := hrel
        go_wp2
        go_ret2
        exact ⟨B1.out, .inr ⟨HB.out, sb, g, tb, rfl, HS.out, HL.out⟩⟩

set_option maxHeartbeats 3200000 in
set_option maxRecDepth 100000 in
theorem snew (nd : Int) (w : World) : Calls Tryd.prog 9 #[.int .i64 nd] w fun e w' => Below w.heap.size w w' ∧
      ((nodeB nd = false ∧ e = .returned (.tuple #[.pointer none, .int .i64 1])) ∨ (nodeB nd = true ∧ ∃ sb g tb, e = .returned (.tuple #[.pointer (some ⟨sb, 0, none⟩), .int .i64 0]) ∧ IsSt w' sb g tb nd 0 .nil 0 ∧ w.heap.size ≤ sb ∧ w.heap.size ≤ g ∧ w.heap.size ≤ tb)) := by
  have C := aside (sloadNil nd w)
  go_enter Tryd.func9, Tryd.ntmps9
  go_wp2_with fail
  refine C.out.mono ?_
  rintro e w1 ⟨b1, ⟨hn, rfl⟩ | ⟨hn, sb, g, tb, rfl, hs, hl⟩⟩
  · have HB := aside hn
    have B1 := aside b1
    clear hn b1 C
    go_wp2
    go_ret2
    exact ⟨B1.out, .inl ⟨HB.out, rfl⟩⟩
  · have HB := aside hn
    have B1 := aside b1
    have HS := aside hs
    have HL := aside hl
    clear hn b1 C hs hl
    go_wp2
    go_ret2
    exact ⟨B1.out, .inr ⟨HB.out, sb, g, tb, rfl, HS.out, HL.out⟩⟩

end Go.Proofs.YtlgcdcjhflihiaaDoor
namespace Go.Proofs.YtlgcdcjhflihiaaDoor
open Go.RowKit
set_option linter.unusedVariables false

/-- The store in the block sb holds Ls. -/
def Sto (w : World) (sb g tb : Nat) (nd ck : Int) (Ls : List En) : Prop := ∃ T n, IsSt w sb g tb nd ck T n ∧ Hol T Ls

theorem Sto.below {w w' : World} {sb g tb : Nat} {nd ck : Int} {Ls : List En} (h : Sto w sb g tb nd ck Ls) (b : Below w.heap.size w w') : Sto w' sb g tb nd ck Ls := by
  obtain ⟨T, n, h1, h2⟩ := h
  exact ⟨T, n, h1.below b, h2⟩
theorem Sto.keeps {w w' : World} {sb g tb : Nat} {nd ck : Int} {Ls : List En} (h : Sto w sb g tb nd ck Ls) (L : Lanes w) (k : Keeps (Of sb g tb) w w') : Lanes w' := by
  obtain ⟨T, n, h1, h2⟩ := h
  exact L.keeps k (L.apart h1)
theorem Sto.rises {w : World} {sb g tb : Nat} {nd ck : Int} {Ls : List En} (h : Sto w sb g tb nd ck Ls) : RisesE Ls := by
  obtain ⟨T, n, h1, h2⟩ := h
  exact h2.rises
theorem Sto.not {w : World} {sb g tb : Nat} {nd ck : Int} {Ls : List En} (h : Sto w sb g tb nd ck Ls) {i : Nat} {cs : Array Value} {U : TypeId} (hi : w.heap[i]? = some (.cells cs U (0, 0))) (h1 : U ≠ 82) (h2 : U ≠ 111) (h3 : U ≠ 149) : ¬ Of sb g tb i := by
  obtain ⟨T, n, h4, h5⟩ := h
  exact h4.not hi h1 h2 h3
theorem Sto.lt {w : World} {sb g tb : Nat} {nd ck : Int} {Ls : List En} (h : Sto w sb g tb nd ck Ls) : sb < w.heap.size ∧ g < w.heap.size ∧ tb < w.heap.size := by
  obtain ⟨T, n, h1, h2⟩ := h
  exact h1.lt
theorem Sto.keep {w w' : World} {sb g tb sb' g' tb' : Nat} {nd ck nd' ck' : Int} {Ls Ls' : List En} (h : Sto w sb g tb nd ck Ls) (h' : Sto w sb' g' tb' nd' ck' Ls') (k : Keeps (Of sb' g' tb') w w') (a1 : sb ≠ sb') (a2 : g ≠ g') (a3 : tb ≠ tb') : Sto w' sb g tb nd ck Ls := by
  obtain ⟨T, n, h1, h2⟩ := h
  obtain ⟨T', n', h1', h2'⟩ := h'
  exact ⟨T, n, h1.keep h1' k a1 a2 a3, h2⟩

theorem qlen {w : World} {sb g tb : Nat} {nd ck : Int} {Ls : List En} (h : Sto w sb g tb nd ck Ls) : Calls Tryd.prog 12 #[.pointer (some ⟨sb, 0, none⟩)] w fun e w' => e = .returned (.int .i64 (Ls.length : Int)) ∧ w' = w := by
  obtain ⟨T, n, h1, h2⟩ := h
  have e1 : (T.cnt : Int) = (Ls.length : Int) := by rw [h2.cnt]
  rw [← e1]
  exact slen h1

theorem qclock {w : World} {sb g tb : Nat} {nd ck : Int} {Ls : List En} (h : Sto w sb g tb nd ck Ls) : Calls Tryd.prog 11 #[.pointer (some ⟨sb, 0, none⟩)] w fun e w' => e = .returned (.int .i64 ck) ∧ w' = w := by
  obtain ⟨T, n, h1, h2⟩ := h
  exact sclock h1

theorem qnode {w : World} {sb g tb : Nat} {nd ck : Int} {Ls : List En} (h : Sto w sb g tb nd ck Ls) : Calls Tryd.prog 10 #[.pointer (some ⟨sb, 0, none⟩)] w fun e w' => e = .returned (.int .i64 nd) ∧ w' = w := by
  obtain ⟨T, n, h1, h2⟩ := h
  exact snode h1

theorem qnew (nd : Int) (w : World) : Calls Tryd.prog 9 #[.int .i64 nd] w fun e w' => Below w.heap.size w w' ∧
      ((nodeB nd = false ∧ e = .returned (.tuple #[.pointer none, .int .i64 1])) ∨ (nodeB nd = true ∧ ∃ sb g tb, e = .returned (.tuple #[.pointer (some ⟨sb, 0, none⟩), .int .i64 0]) ∧ Sto w' sb g tb nd 0 [] ∧ w.heap.size ≤ sb ∧ w.heap.size ≤ g ∧ w.heap.size ≤ tb)) :=
  (snew nd w).mono fun e w' ⟨h1, h2⟩ => ⟨h1, h2.imp id (fun ⟨h3, sb, g, tb, h4, h5, h6⟩ => ⟨h3, sb, g, tb, h4, ⟨_, _, h5, Hol.nil⟩, h6⟩)⟩

theorem qput (k v : ByteArray) {w : World} {sb g tb : Nat} {nd ck : Int} {Ls : List En} (h : Sto w sb g tb nd ck Ls) (L : Lanes w) (hl : Ls.length ≤ 1000000) :
    Calls Tryd.prog 15 #[.pointer (some ⟨sb, 0, none⟩), .string k, .string v] w fun r w' => ∃ c m er, r = .returned (.tuple #[.agg #[.int .i64 c, .int .i64 m], .int .i64 er]) ∧ er = wrErr k v nd ck Ls ∧ Keeps (Of sb g tb) w w' ∧ Lanes w' ∧
      ((er ≠ 0 ∧ c = 0 ∧ m = 0 ∧ Sto w' sb g tb nd ck Ls) ∨ (er = 0 ∧ c = ck + 1 ∧ m = nd ∧ Sto w' sb g tb nd (ck + 1) (insE (wrEn k v false nd ck) Ls))) := by
  obtain ⟨T, n, h1, h2⟩ := h
  refine (sput k v h1 L h2 hl).mono fun r w' ⟨c, m, er, e1, e2, e3, e4⟩ => ⟨c, m, er, e1, e2, e3, L.keeps e3 (L.apart h1), e4.imp (fun ⟨a, b, d, i⟩ => ⟨a, b, d, _, _, i, h2⟩) (fun ⟨a, b, d, i⟩ => ⟨a, b, d, _, _, i, h2.put (wrEn k v false nd ck)⟩)⟩

theorem qdel (k : ByteArray) {w : World} {sb g tb : Nat} {nd ck : Int} {Ls : List En} (h : Sto w sb g tb nd ck Ls) (L : Lanes w) (hl : Ls.length ≤ 1000000) :
    Calls Tryd.prog 16 #[.pointer (some ⟨sb, 0, none⟩), .string k] w fun r w' => ∃ c m er, r = .returned (.tuple #[.agg #[.int .i64 c, .int .i64 m], .int .i64 er]) ∧ er = wrErr k ⟨#[]⟩ nd ck Ls ∧ Keeps (Of sb g tb) w w' ∧ Lanes w' ∧
      ((er ≠ 0 ∧ c = 0 ∧ m = 0 ∧ Sto w' sb g tb nd ck Ls) ∨ (er = 0 ∧ c = ck + 1 ∧ m = nd ∧ Sto w' sb g tb nd (ck + 1) (insE (wrEn k ⟨#[]⟩ true nd ck) Ls))) := by
  obtain ⟨T, n, h1, h2⟩ := h
  refine (sdel k h1 L h2 hl).mono fun r w' ⟨c, m, er, e1, e2, e3, e4⟩ => ⟨c, m, er, e1, e2, e3, L.keeps e3 (L.apart h1), e4.imp (fun ⟨a, b, d, i⟩ => ⟨a, b, d, _, _, i, h2⟩) (fun ⟨a, b, d, i⟩ => ⟨a, b, d, _, _, i, h2.put (wrEn k ⟨#[]⟩ true nd ck)⟩)⟩

theorem qtake (e : En) {w : World} {sb g tb : Nat} {nd ck : Int} {Ls : List En} (h : Sto w sb g tb nd ck Ls) (L : Lanes w) (hl : Ls.length ≤ 1000000) :
    Calls Tryd.prog 17 #[.pointer (some ⟨sb, 0, none⟩), .agg #[.string e.k, .int .i64 e.c, .int .i64 e.n, .string e.v, .bool e.d]] w fun r w' => r = .returned (.tuple #[.bool (tkSay e Ls).2, .int .i64 (tkSay e Ls).1]) ∧ Keeps (Of sb g tb) w w' ∧ Lanes w' ∧
      (((tkSay e Ls).2 = false ∧ Sto w' sb g tb nd ck Ls) ∨ ((tkSay e Ls).2 = true ∧ Sto w' sb g tb nd (ckm ck e.c) (insE e Ls))) := by
  obtain ⟨T, n, h1, h2⟩ := h
  refine (stake e h1 L h2 hl).mono fun r w' ⟨e1, e3, e4⟩ => ⟨e1, e3, L.keeps e3 (L.apart h1), e4.imp (fun ⟨a, i⟩ => ⟨a, _, _, i, h2⟩) (fun ⟨a, i⟩ => ⟨a, _, _, i, h2.put e⟩)⟩

theorem qget (k : ByteArray) {w : World} {sb g tb : Nat} {nd ck : Int} {Ls : List En} (h : Sto w sb g tb nd ck Ls) (hl : Ls.length ≤ 1000000) :
    Calls Tryd.prog 21 #[.pointer (some ⟨sb, 0, none⟩), .string k] w fun r w' => r = .returned (if (16 : Int) < k.size then .tuple #[.agg #[.string ⟨#[]⟩, .int .i64 0, .int .i64 0, .string ⟨#[]⟩, .bool false], .bool false, .int .i64 20] else .tuple #[.agg #[.string ((lookE k Ls).getD eNone).k, .int .i64 ((lookE k Ls).getD eNone).c, .int .i64 ((lookE k Ls).getD eNone).n, .string ((lookE k Ls).getD eNone).v, .bool ((lookE k Ls).getD eNone).d], .bool (lookE k Ls).isSome, .int .i64 0]) ∧ Below w.heap.size w w' := by
  obtain ⟨T, n, h1, h2⟩ := h
  exact sget k h1 h2 hl

theorem qfold (lo hi : ByteArray) (op : Bool) {w : World} {sb g tb : Nat} {nd ck : Int} {Ls : List En} (h : Sto w sb g tb nd ck Ls) (L : Lanes w) (hl : Ls.length ≤ 1000000) :
    Calls Tryd.prog 24 #[.pointer (some ⟨sb, 0, none⟩), .agg #[.string lo, .string hi, .bool op]] w fun r w' => r = .returned (.tuple #[.agg #[.int .i64 (foldV lo hi op Ls).n, .int .u64 (foldV lo hi op Ls).a, .int .u64 (foldV lo hi op Ls).b], .int .i64 (Rg.chk ⟨lo, hi, op⟩)]) ∧ Sto w' sb g tb nd ck Ls ∧ Keeps (Of sb g tb) w w' ∧ Lanes w' := by
  obtain ⟨T, n, h1, h2⟩ := h
  exact (sfold lo hi op h1 h2 hl).mono fun r w' ⟨e1, ⟨d, e2, e3⟩, e4⟩ => ⟨e1, ⟨_, _, e3, h2⟩, e4, L.keeps e4 (L.apart h1)⟩

end Go.Proofs.YtlgcdcjhflihiaaDoor
namespace Go.Proofs.YtlgcdcjhflihiaaDoor
open Go.RowKit
set_option linter.unusedVariables false

/-- Are two entries the same? -/
def enEqB (a b : En) : Bool := (a.k.toList == b.k.toList) && ((a.c == b.c && a.n == b.n) && ((a.v.toList == b.v.toList) && (a.d == b.d)))

theorem enEqB_iff (a b : En) : enEqB a b = true ↔ a = b := by
  obtain ⟨k, c, n, v, d⟩ := a
  obtain ⟨k', c', n', v', d'⟩ := b
  simp only [enEqB, Bool.and_eq_true, beq_iff_eq, En.mk.injEq]
  constructor
  · rintro ⟨h1, ⟨h2, h3⟩, h4, h5⟩
    exact ⟨toList_inj h1, h2, h3, toList_inj h4, h5⟩
  · rintro ⟨rfl, rfl, rfl, rfl, rfl⟩
    exact ⟨rfl, ⟨rfl, rfl⟩, rfl, rfl⟩
theorem enEqB_same (a : En) : enEqB a a = true := (enEqB_iff a a).2 rfl
theorem enEqB_ne {a b : En} (h : a ≠ b) : enEqB a b = false := by
  cases h2 : enEqB a b
  · rfl
  · exact absurd ((enEqB_iff a b).1 h2) h

theorem verq_run (a n b m : Int) (w : World) : (binOp .eql 37 (.agg #[.int .i64 a, .int .i64 n]) (.agg #[.int .i64 b, .int .i64 m])).run Tryd.prog w = .ok (.bool (a == b && n == m)) w := by
  by_cases h1 : a = b <;> by_cases h2 : n = m
  all_goals
    go_simp
    try simp [h1, h2]
theorem verne_run (a n b m : Int) (w : World) : (binOp .neq 37 (.agg #[.int .i64 a, .int .i64 n]) (.agg #[.int .i64 b, .int .i64 m])).run Tryd.prog w = .ok (.bool (!(a == b && n == m))) w := by
  by_cases h1 : a = b <;> by_cases h2 : n = m
  all_goals
    go_simp
    try simp [h1, h2]

theorem ent_in (a b : En) (w : World) : (Op.equalIn 10000 39 (.agg #[.string a.k, .int .i64 a.c, .int .i64 a.n, .string a.v, .bool a.d]) (.agg #[.string b.k, .int .i64 b.c, .int .i64 b.n, .string b.v, .bool b.d])).run Tryd.prog w = .ok (enEqB a b) w := by
  unfold enEqB
  rw [show (10000 : Nat) = 9999 + 1 from rfl]
  cases h1 : (a.k.toList == b.k.toList) <;> by_cases h2 : a.c = b.c <;> by_cases h5 : a.n = b.n <;> cases h3 : (a.v.toList == b.v.toList) <;> cases h4 : (a.d == b.d)
  all_goals
    go_simp
    try simp [h2, h5]
theorem ent_eq (a b : En) (w : World) : (binOp .eql 39 (.agg #[.string a.k, .int .i64 a.c, .int .i64 a.n, .string a.v, .bool a.d]) (.agg #[.string b.k, .int .i64 b.c, .int .i64 b.n, .string b.v, .bool b.d])).run Tryd.prog w = .ok (.bool (enEqB a b)) w := by
  rw [run_eql_struct, ent_in]; rfl
theorem ent_ne (a b : En) (w : World) : (binOp .neq 39 (.agg #[.string a.k, .int .i64 a.c, .int .i64 a.n, .string a.v, .bool a.d]) (.agg #[.string b.k, .int .i64 b.c, .int .i64 b.n, .string b.v, .bool b.d])).run Tryd.prog w = .ok (.bool (!enEqB a b)) w := by
  rw [run_neq_struct, ent_in]; rfl

end Go.Proofs.YtlgcdcjhflihiaaDoor
namespace Go.Proofs.YtlgcdcjhflihiaaDoor
open Go.RowKit
set_option linter.unusedVariables false

theorem oput (k v : ByteArray) {w : World} {sb g tb : Nat} {nd ck c : Int} {Ls Ls' : List En} (h : Sto w sb g tb nd ck Ls) (L : Lanes w) (hl : Ls.length ≤ 1000000) (he : wrErr k v nd ck Ls = 0) (hc : ck + 1 = c) (hi : insE (wrEn k v false nd ck) Ls = Ls') :
    Calls Tryd.prog 15 #[.pointer (some ⟨sb, 0, none⟩), .string k, .string v] w fun r w' => r = .returned (.tuple #[.agg #[.int .i64 c, .int .i64 nd], .int .i64 0]) ∧ Sto w' sb g tb nd c Ls' ∧ Lanes w' ∧ Keeps (Of sb g tb) w w' := by
  refine (qput k v h L hl).mono ?_
  rintro r w' ⟨c', m, er, rfl, e2, k, l, h1 | h1⟩
  · exact absurd (e2.trans he) h1.1
  · obtain ⟨rfl, rfl, rfl, h4⟩ := h1
    rw [hc, hi] at h4
    rw [hc]
    exact ⟨rfl, h4, l, k⟩

theorem odel (k : ByteArray) {w : World} {sb g tb : Nat} {nd ck c : Int} {Ls Ls' : List En} (h : Sto w sb g tb nd ck Ls) (L : Lanes w) (hl : Ls.length ≤ 1000000) (he : wrErr k ⟨#[]⟩ nd ck Ls = 0) (hc : ck + 1 = c) (hi : insE (wrEn k ⟨#[]⟩ true nd ck) Ls = Ls') :
    Calls Tryd.prog 16 #[.pointer (some ⟨sb, 0, none⟩), .string k] w fun r w' => r = .returned (.tuple #[.agg #[.int .i64 c, .int .i64 nd], .int .i64 0]) ∧ Sto w' sb g tb nd c Ls' ∧ Lanes w' ∧ Keeps (Of sb g tb) w w' := by
  refine (qdel k h L hl).mono ?_
  rintro r w' ⟨c', m, er, rfl, e2, k, l, h1 | h1⟩
  · exact absurd (e2.trans he) h1.1
  · obtain ⟨rfl, rfl, rfl, h4⟩ := h1
    rw [hc, hi] at h4
    rw [hc]
    exact ⟨rfl, h4, l, k⟩

theorem otake (e : En) {w : World} {sb g tb : Nat} {nd ck c : Int} {Ls Ls' : List En} (h : Sto w sb g tb nd ck Ls) (L : Lanes w) (hl : Ls.length ≤ 1000000) (he : tkSay e Ls = (0, true)) (hc : ckm ck e.c = c) (hi : insE e Ls = Ls') :
    Calls Tryd.prog 17 #[.pointer (some ⟨sb, 0, none⟩), .agg #[.string e.k, .int .i64 e.c, .int .i64 e.n, .string e.v, .bool e.d]] w fun r w' => r = .returned (.tuple #[.bool true, .int .i64 0]) ∧ Sto w' sb g tb nd c Ls' ∧ Lanes w' ∧ Keeps (Of sb g tb) w w' := by
  refine (qtake e h L hl).mono ?_
  rintro r w' ⟨rfl, k, l, h1 | h1⟩
  · rw [he] at h1; cases h1.1
  · rw [hc, hi] at h1
    rw [he]
    exact ⟨rfl, h1.2, l, k⟩

theorem sh1 : wrErr ⟨#[97]⟩ ⟨#[120]⟩ 3 0 [] = 0 ∧ insE (wrEn ⟨#[97]⟩ ⟨#[120]⟩ false 3 0) [] = [(⟨⟨#[97]⟩, 1, 3, ⟨#[120]⟩, false⟩ : En)] := by constructor <;> kernel_rfl
theorem sh2 : wrErr ⟨#[98]⟩ ⟨#[]⟩ 3 1 [(⟨⟨#[97]⟩, 1, 3, ⟨#[120]⟩, false⟩ : En)] = 0 ∧ insE (wrEn ⟨#[98]⟩ ⟨#[]⟩ false 3 1) [(⟨⟨#[97]⟩, 1, 3, ⟨#[120]⟩, false⟩ : En)] = [(⟨⟨#[97]⟩, 1, 3, ⟨#[120]⟩, false⟩ : En), (⟨⟨#[98]⟩, 2, 3, ⟨#[]⟩, false⟩ : En)] := by constructor <;> kernel_rfl
theorem sh3 : wrErr ⟨#[97]⟩ ⟨#[]⟩ 3 2 [(⟨⟨#[97]⟩, 1, 3, ⟨#[120]⟩, false⟩ : En), (⟨⟨#[98]⟩, 2, 3, ⟨#[]⟩, false⟩ : En)] = 0 ∧ insE (wrEn ⟨#[97]⟩ ⟨#[]⟩ true 3 2) [(⟨⟨#[97]⟩, 1, 3, ⟨#[120]⟩, false⟩ : En), (⟨⟨#[98]⟩, 2, 3, ⟨#[]⟩, false⟩ : En)] = [(⟨⟨#[97]⟩, 3, 3, ⟨#[]⟩, true⟩ : En), (⟨⟨#[98]⟩, 2, 3, ⟨#[]⟩, false⟩ : En)] := by constructor <;> kernel_rfl
theorem sh4 : tkSay (⟨⟨#[99]⟩, 9, 0, ⟨#[]⟩, false⟩ : En) [(⟨⟨#[97]⟩, 3, 3, ⟨#[]⟩, true⟩ : En), (⟨⟨#[98]⟩, 2, 3, ⟨#[]⟩, false⟩ : En)] = (0, true) ∧ insE (⟨⟨#[99]⟩, 9, 0, ⟨#[]⟩, false⟩ : En) [(⟨⟨#[97]⟩, 3, 3, ⟨#[]⟩, true⟩ : En), (⟨⟨#[98]⟩, 2, 3, ⟨#[]⟩, false⟩ : En)] = [(⟨⟨#[97]⟩, 3, 3, ⟨#[]⟩, true⟩ : En), (⟨⟨#[98]⟩, 2, 3, ⟨#[]⟩, false⟩ : En), (⟨⟨#[99]⟩, 9, 0, ⟨#[]⟩, false⟩ : En)] := by constructor <;> kernel_rfl
theorem sh5 : wrErr ⟨#[97]⟩ ⟨#[121]⟩ 3 9 [(⟨⟨#[97]⟩, 3, 3, ⟨#[]⟩, true⟩ : En), (⟨⟨#[98]⟩, 2, 3, ⟨#[]⟩, false⟩ : En), (⟨⟨#[99]⟩, 9, 0, ⟨#[]⟩, false⟩ : En)] = 0 ∧ insE (wrEn ⟨#[97]⟩ ⟨#[121]⟩ false 3 9) [(⟨⟨#[97]⟩, 3, 3, ⟨#[]⟩, true⟩ : En), (⟨⟨#[98]⟩, 2, 3, ⟨#[]⟩, false⟩ : En), (⟨⟨#[99]⟩, 9, 0, ⟨#[]⟩, false⟩ : En)] = [(⟨⟨#[97]⟩, 10, 3, ⟨#[121]⟩, false⟩ : En), (⟨⟨#[98]⟩, 2, 3, ⟨#[]⟩, false⟩ : En), (⟨⟨#[99]⟩, 9, 0, ⟨#[]⟩, false⟩ : En)] := by constructor <;> kernel_rfl
theorem sh6 : (lookE ⟨#[97]⟩ [(⟨⟨#[97]⟩, 10, 3, ⟨#[121]⟩, false⟩ : En), (⟨⟨#[98]⟩, 2, 3, ⟨#[]⟩, false⟩ : En), (⟨⟨#[99]⟩, 9, 0, ⟨#[]⟩, false⟩ : En)]).getD eNone = (⟨⟨#[97]⟩, 10, 3, ⟨#[121]⟩, false⟩ : En) ∧ (lookE ⟨#[97]⟩ [(⟨⟨#[97]⟩, 10, 3, ⟨#[121]⟩, false⟩ : En), (⟨⟨#[98]⟩, 2, 3, ⟨#[]⟩, false⟩ : En), (⟨⟨#[99]⟩, 9, 0, ⟨#[]⟩, false⟩ : En)]).isSome = true := by constructor <;> kernel_rfl
theorem sh7 : Rg.chk ⟨⟨#[120]⟩, ⟨#[97]⟩, false⟩ = 21 ∧ foldV ⟨#[120]⟩ ⟨#[97]⟩ false [(⟨⟨#[97]⟩, 10, 3, ⟨#[121]⟩, false⟩ : En), (⟨⟨#[98]⟩, 2, 3, ⟨#[]⟩, false⟩ : En), (⟨⟨#[99]⟩, 9, 0, ⟨#[]⟩, false⟩ : En)] = tZero := by constructor <;> kernel_rfl
theorem sh8 : Rg.chk ⟨⟨#[98]⟩, ⟨#[99]⟩, false⟩ = 0 ∧ (foldV ⟨#[98]⟩ ⟨#[99]⟩ false [(⟨⟨#[97]⟩, 10, 3, ⟨#[121]⟩, false⟩ : En), (⟨⟨#[98]⟩, 2, 3, ⟨#[]⟩, false⟩ : En), (⟨⟨#[99]⟩, 9, 0, ⟨#[]⟩, false⟩ : En)]).n = 1 := by constructor <;> kernel_rfl

set_option maxHeartbeats 6400000 in
set_option maxRecDepth 100000 in
theorem shown_any (w : World) (L : Lanes w) : Calls Tryd.prog 8 #[] w fun e w' => e = .returned (.bool true) ∧ Below w.heap.size w w' := by
  have LL := aside L
  have C1 := aside (fun (W : World) => qnew 3 W)
  have hv1 : ∀ w : World, (binOp .eql 37 (.agg #[.int .i64 3, .int .i64 3]) (.agg #[.int .i64 3, .int .i64 3])).run Tryd.prog w = .ok (.bool true) w := fun w => verq_run 3 3 3 3 w
  have hv2 : ∀ w : World, (binOp .eql 37 (.agg #[.int .i64 10, .int .i64 3]) (.agg #[.int .i64 10, .int .i64 3])).run Tryd.prog w = .ok (.bool true) w := fun w => verq_run 10 3 10 3 w
  have hee : ∀ w : World, (binOp .eql 39 (.agg #[.string ⟨#[97]⟩, .int .i64 10, .int .i64 3, .string ⟨#[121]⟩, .bool false]) (.agg #[.string ⟨#[97]⟩, .int .i64 10, .int .i64 3, .string ⟨#[121]⟩, .bool false])).run Tryd.prog w = .ok (.bool true) w := fun w => by
    have h := ent_eq (⟨⟨#[97]⟩, 10, 3, ⟨#[121]⟩, false⟩ : En) (⟨⟨#[97]⟩, 10, 3, ⟨#[121]⟩, false⟩ : En) w
    rw [enEqB_same] at h
    exact h
  clear L
  go_enter Tryd.func8, Tryd.ntmps8
  go_wp2_with fail
  refine (C1.out _).mono ?_
  rintro e w1 ⟨b1, ⟨hn, rfl⟩ | ⟨-, sb, g, tb, rfl, hs, l1, l2, l3⟩⟩
  · exact absurd hn (by decide)
  have H1 := aside hs
  have L1 := aside (LL.out.keep b1)
  have K1 := aside (Keeps.of_below b1 (Of sb g tb))
  have HL := aside (show w.heap.size ≤ sb ∧ w.heap.size ≤ g ∧ w.heap.size ≤ tb from ⟨l1, l2, l3⟩)
  clear b1 hs l1 l2 l3 C1 LL
  go_wp2_with fail
  refine (oput ⟨#[97]⟩ ⟨#[120]⟩ H1.out L1.out (by decide) sh1.1 (show (0 : Int) + 1 = 1 from rfl) sh1.2).mono ?_
  rintro e w2 ⟨rfl, hs, hl, hk⟩
  have H2 := aside hs
  have L2 := aside hl
  have K2 := aside (K1.out.trans hk)
  clear hs hl hk H1 L1 K1
  go_wp2_with fail
  refine (oput ⟨#[98]⟩ ⟨#[]⟩ H2.out L2.out (by decide) sh2.1 (show (1 : Int) + 1 = 2 from rfl) sh2.2).mono ?_
  rintro e w3 ⟨rfl, hs, hl, hk⟩
  have H3 := aside hs
  have L3 := aside hl
  have K3 := aside (K2.out.trans hk)
  clear hs hl hk H2 L2 K2
  go_wp2_with fail
  refine (odel ⟨#[97]⟩ H3.out L3.out (by decide) sh3.1 (show (2 : Int) + 1 = 3 from rfl) sh3.2).mono ?_
  rintro e w4 ⟨rfl, hs, hl, hk⟩
  have b4 := bnew w4 (.cells #[.int .i64 3, .int .i64 3] 37)
  have H4 := aside (hs.below b4)
  have L4 := aside (hl.keep b4)
  have K4 := aside ((K3.out.trans hk).trans (Keeps.of_below b4 _))
  have V4 := aside (heap_alloc_new w4 (.cells #[.int .i64 3, .int .i64 3] 37))
  clear hs hl hk H3 L3 K3 b4
  go_wp2_with fail
  refine (otake (⟨⟨#[99]⟩, 9, 0, ⟨#[]⟩, false⟩ : En) H4.out L4.out (by decide) sh4.1 (show ckm 3 9 = 9 from rfl) sh4.2).mono ?_
  rintro e w5 ⟨rfl, hs, hl, hk⟩
  have H5 := aside hs
  have L5 := aside hl
  have K5 := aside (K4.out.trans hk)
  have V5 := aside (blk_keep V4.out hk (H4.out.not V4.out (by decide) (by decide) (by decide)))
  clear hs hl hk H4 L4 K4 V4
  generalize w4.heap.size = i4 at *
  go_wp2_with fail
  refine (oput ⟨#[97]⟩ ⟨#[121]⟩ H5.out L5.out (by decide) sh5.1 (show (9 : Int) + 1 = 10 from rfl) sh5.2).mono ?_
  rintro e w6 ⟨rfl, hs, hl, hk⟩
  have b6 := bnew w6 (.cells #[.int .i64 10, .int .i64 3] 37)
  have H6 := aside (hs.below b6)
  have L6 := aside (hl.keep b6)
  have K6 := aside ((K5.out.trans hk).trans (Keeps.of_below b6 _))
  have V6 := aside (blk_on (blk_keep V5.out hk (H5.out.not V5.out (by decide) (by decide) (by decide))) b6)
  have U6 := aside (heap_alloc_new w6 (.cells #[.int .i64 10, .int .i64 3] 37))
  clear hs hl hk H5 L5 K5 V5 b6
  go_wp2_with fail
  have CG := aside (qget ⟨#[97]⟩ H6.out (by decide))
  rw [if_neg (by decide), sh6.1, sh6.2] at CG
  refine CG.out.mono ?_
  rintro e w7 ⟨rfl, b7⟩
  have b7' := bnew w7 (.cells #[.string (⟨⟨#[97]⟩, 10, 3, ⟨#[121]⟩, false⟩ : En).k, .int .i64 (⟨⟨#[97]⟩, 10, 3, ⟨#[121]⟩, false⟩ : En).c, .int .i64 (⟨⟨#[97]⟩, 10, 3, ⟨#[121]⟩, false⟩ : En).n, .string (⟨⟨#[97]⟩, 10, 3, ⟨#[121]⟩, false⟩ : En).v, .bool (⟨⟨#[97]⟩, 10, 3, ⟨#[121]⟩, false⟩ : En).d] 39)
  have H7 := aside ((H6.out.below b7).below b7')
  have L7 := aside ((L6.out.keep b7).keep b7')
  have K7 := aside (K6.out.trans (Keeps.of_below (bthen b7 b7') _))
  have V7 := aside (blk_on (blk_on V6.out b7) b7')
  have U7 := aside (blk_on (blk_on U6.out b7) b7')
  have E7 := aside (heap_alloc_new w7 (.cells #[.string (⟨⟨#[97]⟩, 10, 3, ⟨#[121]⟩, false⟩ : En).k, .int .i64 (⟨⟨#[97]⟩, 10, 3, ⟨#[121]⟩, false⟩ : En).c, .int .i64 (⟨⟨#[97]⟩, 10, 3, ⟨#[121]⟩, false⟩ : En).n, .string (⟨⟨#[97]⟩, 10, 3, ⟨#[121]⟩, false⟩ : En).v, .bool (⟨⟨#[97]⟩, 10, 3, ⟨#[121]⟩, false⟩ : En).d] 39))
  clear b7 b7' CG H6 L6 K6 V6 U6
  generalize w6.heap.size = i6 at *
  dsimp only at H7 L7 K7 V7 U7 E7
  go_wp2_with fail
  have CF := aside (qfold ⟨#[120]⟩ ⟨#[97]⟩ false H7.out L7.out (by decide))
  rw [sh7.1, sh7.2, tZero_n, tZero_a, tZero_b] at CF
  refine CF.out.mono ?_
  rintro e w8 ⟨rfl, hs, hk, hl⟩
  have b8 := bnew w8 (.cells #[.int .i64 0, .int .u64 0, .int .u64 0] 64)
  have H8 := aside (hs.below b8)
  have L8 := aside (hl.keep b8)
  have K8 := aside ((K7.out.trans hk).trans (Keeps.of_below b8 _))
  have V8 := aside (blk_on (blk_keep V7.out hk (H7.out.not V7.out (by decide) (by decide) (by decide))) b8)
  have U8 := aside (blk_on (blk_keep U7.out hk (H7.out.not U7.out (by decide) (by decide) (by decide))) b8)
  have E8 := aside (blk_on (blk_keep E7.out hk (H7.out.not E7.out (by decide) (by decide) (by decide))) b8)
  clear hs hl hk H7 L7 K7 V7 U7 E7 b8 CF
  generalize w7.heap.size = i7 at *
  go_wp2_with fail
  have CF := aside (qfold ⟨#[98]⟩ ⟨#[99]⟩ false H8.out L8.out (by decide))
  obtain ⟨tn, htn⟩ : ∃ x, (foldV ⟨#[98]⟩ ⟨#[99]⟩ false [(⟨⟨#[97]⟩, 10, 3, ⟨#[121]⟩, false⟩ : En), (⟨⟨#[98]⟩, 2, 3, ⟨#[]⟩, false⟩ : En), (⟨⟨#[99]⟩, 9, 0, ⟨#[]⟩, false⟩ : En)]).n = x := ⟨_, rfl⟩
  obtain ⟨ta, hta⟩ : ∃ x, (foldV ⟨#[98]⟩ ⟨#[99]⟩ false [(⟨⟨#[97]⟩, 10, 3, ⟨#[121]⟩, false⟩ : En), (⟨⟨#[98]⟩, 2, 3, ⟨#[]⟩, false⟩ : En), (⟨⟨#[99]⟩, 9, 0, ⟨#[]⟩, false⟩ : En)]).a = x := ⟨_, rfl⟩
  obtain ⟨tc, htc⟩ : ∃ x, (foldV ⟨#[98]⟩ ⟨#[99]⟩ false [(⟨⟨#[97]⟩, 10, 3, ⟨#[121]⟩, false⟩ : En), (⟨⟨#[98]⟩, 2, 3, ⟨#[]⟩, false⟩ : En), (⟨⟨#[99]⟩, 9, 0, ⟨#[]⟩, false⟩ : En)]).b = x := ⟨_, rfl⟩
  rw [sh8.1, htn, hta, htc] at CF
  rw [sh8.2] at htn
  subst htn
  clear hta htc
  refine CF.out.mono ?_
  rintro e w9 ⟨rfl, hs, hk, hl⟩
  have b9 := bnew w9 (.cells #[.int .i64 1, .int .u64 ta, .int .u64 tc] 64)
  have H9 := aside (hs.below b9)
  have K9 := aside ((K8.out.trans hk).trans (Keeps.of_below b9 _))
  obtain ⟨v0, v1, -, -⟩ := pair (blk_on (blk_keep V8.out hk (H8.out.not V8.out (by decide) (by decide) (by decide))) b9)
  obtain ⟨u0, u1, -, -⟩ := pair (blk_on (blk_keep U8.out hk (H8.out.not U8.out (by decide) (by decide) (by decide))) b9)
  obtain ⟨e0, e1, e2, e3, e4, -⟩ := penta (blk_on (blk_keep E8.out hk (H8.out.not E8.out (by decide) (by decide) (by decide))) b9)
  have CLn := aside (qlen H9.out)
  have CCk := aside (qclock H9.out)
  rw [show (([(⟨⟨#[97]⟩, 10, 3, ⟨#[121]⟩, false⟩ : En), (⟨⟨#[98]⟩, 2, 3, ⟨#[]⟩, false⟩ : En), (⟨⟨#[99]⟩, 9, 0, ⟨#[]⟩, false⟩ : En)].length : Nat) : Int) = 3 from rfl] at CLn
  clear hs hl hk H8 L8 K8 V8 U8 E8 b9 CF
  generalize w8.heap.size = i8 at *
  go_wp2_with fail
  refine CLn.out.mono ?_
  rintro e w10 ⟨rfl, rfl⟩
  go_wp2_with fail
  refine CCk.out.mono ?_
  rintro e w10 ⟨rfl, rfl⟩
  go_wp2
  go_ret
  exact ⟨rfl, K9.out.below (Nat.le_refl _) (fun k hk e => by have := HL.out; rcases e with e | e | e <;> omega)⟩

end Go.Proofs.YtlgcdcjhflihiaaDoor
namespace Go.Proofs.YtlgcdcjhflihiaaDoor
open Go.RowKit
set_option linter.unusedVariables false

set_option maxHeartbeats 3200000 in
set_option maxRecDepth 100000 in
theorem lstnew_walk (nd : Int) (w : World) (L : Lanes w) : Calls Tryd.prog 3 #[.int .i64 nd] w fun e w' => e = .returned (.bool true) ∧ Below w.heap.size w w' := by
  have LL := aside L
  have C0 := aside (shown_any w L)
  have C1 := aside (fun (W : World) => qnew nd W)
  clear L
  by_cases h1 : nd < 0
  · have hb := node_no1 h1
    go_enter Tryd.func3, Tryd.ntmps3
    go_wp2_with fail
    refine C0.out.mono ?_
    rintro e w0 ⟨rfl, b0⟩
    have B0 := aside b0
    clear b0
    go_wp2_with fail
    refine (C1.out _).mono ?_
    rintro e w1 ⟨b1, ⟨hn, rfl⟩ | ⟨hn, -⟩⟩
    · have B1 := aside (bthen B0.out b1)
      clear b1 hn hb
      go_wp2
      go_ret
      exact ⟨rfl, B1.out⟩
    · rw [hb] at hn; cases hn
  · by_cases h2 : 8 ≤ nd
    · have hb := node_no2 h2
      go_enter Tryd.func3, Tryd.ntmps3
      go_wp2_with fail
      refine C0.out.mono ?_
      rintro e w0 ⟨rfl, b0⟩
      have B0 := aside b0
      clear b0
      go_wp2_with fail
      refine (C1.out _).mono ?_
      rintro e w1 ⟨b1, ⟨hn, rfl⟩ | ⟨hn, -⟩⟩
      · have B1 := aside (bthen B0.out b1)
        clear b1 hn hb
        go_wp2
        go_ret
        exact ⟨rfl, B1.out⟩
      · rw [hb] at hn; cases hn
    · have hb := node_yes h1 h2
      go_enter Tryd.func3, Tryd.ntmps3
      go_wp2_with fail
      refine C0.out.mono ?_
      rintro e w0 ⟨rfl, b0⟩
      have B0 := aside b0
      clear b0
      go_wp2_with fail
      refine (C1.out _).mono ?_
      rintro e w1 ⟨b1, ⟨hn, rfl⟩ | ⟨hn, sb, g, tb, rfl, hs, -⟩⟩
      · rw [hb] at hn; cases hn
      · have B1 := aside (bthen B0.out b1)
        have HS := aside hs
        have CN := aside (qnode hs)
        have CK := aside (qclock hs)
        have CL := aside (qlen hs)
        clear b1 hn hb hs
        go_wp2_with fail
        refine CN.out.mono ?_
        rintro e w2 ⟨rfl, rfl⟩
        go_wp2_with fail
        refine CK.out.mono ?_
        rintro e w2 ⟨rfl, rfl⟩
        go_wp2_with fail
        refine CL.out.mono ?_
        rintro e w2 ⟨rfl, rfl⟩
        go_wp2
        go_ret
        exact ⟨rfl, B1.out⟩

end Go.Proofs.YtlgcdcjhflihiaaDoor

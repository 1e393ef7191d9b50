/-
  write, Put and Delete.
  Put, Delete and Take.
  New: a store that holds nothing.
  A store, as a law meets it: by the entries that it holds.
  A list of entries in memory.
  Rows of entries that a call owns: their cells, copies by append, one entry appended.
  Scan and All; all that a store holds.
-/
import Derived.Test.YtlgcdcjhflihiaaDoorBstoreturned8
import Derived.Test.YtlgcdcjhflihiaaDoorBstoreturned1
import Derived.OwnWalk
import Derived.Laws.OwnMore
import Derived.Laws.EntriesVeiled
import Derived.OwnWalkIn
import Derived.RangeFuncBox
namespace Go.Proofs.YtlgcdcjhflihiaaDoor
open Go.RowKit
set_option linter.unusedVariables false

/-- What write answers: its error, or none. -/
def wrErr (k v : ByteArray) (nd ck : Int) (Ls : List En) : Int :=
  if (16 : Int) < k.size then 20 else if (32 : Int) < v.size then 31 else if roomB k Ls = false then 80 else (Vs.nx ck nd).2.2

/-- The entry that is written. -/
def wrEn (k v : ByteArray) (d : Bool) (nd ck : Int) : En := ⟨k, ck + 1, nd, v, d⟩

theorem ver_end {w X : World} {sb g tb i : Nat} {nd ck : Int} {T : Tr En Tl} {n : Nat} {x y : Value} (h : IsSt X sb g tb nd ck T n) (k : Keeps (Of sb g tb) w X) (hb : X.heap[w.heap.size + i]? = some (.cells #[x, y] 37 (0, 0))) (c m : Int) :
    IsSt ((X.setCell ⟨w.heap.size + i, 0, none⟩ (.int .i64 c)).setCell ⟨w.heap.size + i, 1, none⟩ (.int .i64 m)) sb g tb nd ck T n ∧ Keeps (Of sb g tb) w ((X.setCell ⟨w.heap.size + i, 0, none⟩ (.int .i64 c)).setCell ⟨w.heap.size + i, 1, none⟩ (.int .i64 m)) := by
  have hn := h.not hb (by decide) (by decide) (by decide)
  obtain ⟨p, ht, hT⟩ := h.tree
  have h1 := heap_setCell_same X (w.heap.size + i) 0 _ _ (.int .i64 c) hb
  refine ⟨⟨?_, (h.cnt.setCell (p := ⟨w.heap.size + i, 0, none⟩) _ (fun e => hn (.inr (.inr (Option.some.inj e).symm)))).setCell (p := ⟨w.heap.size + i, 1, none⟩) _ (fun e => hn (.inr (.inr (Option.some.inj e).symm))), ⟨p, ?_, hT.on (((Stay.refl _ X).setCell _ (fun cs e => by dsimp only at e; rw [hb] at e; simp at e)).setCell _ (fun cs e => by dsimp only at e; rw [h1] at e; simp at e))⟩⟩, (k.setCell (p := ⟨w.heap.size + i, 0, none⟩) (fun e => by dsimp only at e; omega) _).setCell (p := ⟨w.heap.size + i, 1, none⟩) (fun e => by dsimp only at e; omega) _⟩
  · rw [heap_setCell_other _ _ _ _ (fun e => hn (.inl e.symm)), heap_setCell_other _ _ _ _ (fun e => hn (.inl e.symm))]; exact h.blk
  · unfold TObjE; rw [heap_setCell_other _ _ _ _ (fun e => hn (.inr (.inl e.symm))), heap_setCell_other _ _ _ _ (fun e => hn (.inr (.inl e.symm)))]; exact ht

theorem ver_lay {w X : World} {sb g tb vb : Nat} {nd ck : Int} {T : Tr En Tl} {n : Nat} {x y : Value} {cs : Array Value} {z u : Value} (h : IsSt X sb g tb nd ck T n) (b : Below w.heap.size w X) (L : Lanes X) (g0 : X.heap[w.heap.size]? = some (.cells cs 39 (0, 0))) (g1 : X.heap[w.heap.size + 1]? = some (.cells #[z, u] 37 (0, 0))) (gv : X.heap[vb]? = some (.cells #[x, y] 37 (0, 0))) (hv : w.heap.size + 2 ≤ vb) (c m : Int) :
    (fun Y : World => IsSt Y sb g tb nd ck T n ∧ Below w.heap.size w Y ∧ Lanes Y ∧ Y.heap[w.heap.size]? = some (.cells cs 39 (0, 0)) ∧ Y.heap[w.heap.size + 1]? = some (.cells #[z, u] 37 (0, 0)) ∧ Y.heap[vb]? = some (.cells #[.int .i64 c, .int .i64 m] 37 (0, 0))) ((X.setCell ⟨vb, 0, none⟩ (.int .i64 c)).setCell ⟨vb, 1, none⟩ (.int .i64 m)) := by
  have h1 := heap_setCell_same X vb 0 _ _ (.int .i64 c) gv
  have h2 := heap_setCell_same _ vb 1 _ _ (.int .i64 m) h1
  have ob : ∀ k, k ≠ vb → ((X.setCell ⟨vb, 0, none⟩ (.int .i64 c)).setCell ⟨vb, 1, none⟩ (.int .i64 m)).heap[k]? = X.heap[k]? := fun k hk => by rw [heap_setCell_other _ _ _ _ hk, heap_setCell_other _ _ _ _ hk]
  have hn := h.not gv (by decide) (by decide) (by decide)
  have kk : Keeps (fun x => x = vb) X ((X.setCell ⟨vb, 0, none⟩ (.int .i64 c)).setCell ⟨vb, 1, none⟩ (.int .i64 m)) := ((Keeps.refl (fun x => x = vb) X).setCell (p := ⟨vb, 0, none⟩) (fun _ => rfl) _).setCell (p := ⟨vb, 1, none⟩) (fun _ => rfl) _
  obtain ⟨p, ht, hT⟩ := h.tree
  refine ⟨⟨(ob _ (fun e => hn (.inl e.symm))).trans h.blk, fun b' e => (ob _ (fun e2 => hn (.inr (.inr (by cases e; exact e2.symm))))).trans (h.cnt b' e), ⟨p, (ob _ (fun e => hn (.inr (.inl e.symm)))).trans ht, hT.on ((Stay.refl _ X).keeps kk (fun i cs' hi e => by subst e; rw [gv] at hi; simp at hi))⟩⟩, ?_, L.keeps kk (fun e => ?_), (ob _ (by omega)).trans g0, (ob _ (by omega)).trans g1, h2⟩
  · exact (b.setCell (p := ⟨vb, 0, none⟩) (by dsimp only; omega) _).setCell (p := ⟨vb, 1, none⟩) (by dsimp only; omega) _
  · have h3 := L.c5
    rw [show World.cell? X ⟨0, 5, none⟩ = none from by rw [← e] at gv; simp [World.cell?, gv]] at h3
    cases h3

/-- The version laid into the entry. -/
theorem wr_box {w X : World} {sb g tb vb : Nat} {ck : Int} {T : Tr En Tl} {n : Nat} {k v : ByteArray} {d : Bool} {a0 a1 : Int} {z u : Value} {c m : Int} {nd' : Int} (h : IsSt X sb g tb nd' ck T n) (b : Below w.heap.size w X) (L : Lanes X) (g0 : X.heap[w.heap.size]? = some (.cells #[.string k, .int .i64 a0, .int .i64 a1, .string v, .bool d] 39 (0, 0))) (g1 : X.heap[w.heap.size + 1]? = some (.cells #[z, u] 37 (0, 0))) (gv : X.heap[vb]? = some (.cells #[.int .i64 c, .int .i64 m] 37 (0, 0))) (hv : w.heap.size + 2 ≤ vb) :
    (fun Y : World => IsSt Y sb g tb nd' ck T n ∧ Lanes Y ∧ Y.heap[w.heap.size + 1]? = some (.cells #[z, u] 37 (0, 0)) ∧ Y.heap[vb]? = some (.cells #[.int .i64 c, .int .i64 m] 37 (0, 0)) ∧ Below w.heap.size w Y ∧ Y.heap[w.heap.size]? = some (.cells #[.string k, .int .i64 c, .int .i64 m, .string v, .bool d] 39 (0, 0))) ((X.setCell ⟨w.heap.size, 1, none⟩ (.int .i64 c)).setCell ⟨w.heap.size, 2, none⟩ (.int .i64 m)) := by
  have h1 := heap_setCell_same X w.heap.size 1 _ _ (.int .i64 c) g0
  have h2 := heap_setCell_same _ w.heap.size 2 _ _ (.int .i64 m) h1
  have ob : ∀ k, k ≠ w.heap.size → ((X.setCell ⟨w.heap.size, 1, none⟩ (.int .i64 c)).setCell ⟨w.heap.size, 2, none⟩ (.int .i64 m)).heap[k]? = X.heap[k]? := fun k hk => by rw [heap_setCell_other _ _ _ _ hk, heap_setCell_other _ _ _ _ hk]
  have hn := h.not g0 (by decide) (by decide) (by decide)
  have kk : Keeps (fun x => x = w.heap.size) X ((X.setCell ⟨w.heap.size, 1, none⟩ (.int .i64 c)).setCell ⟨w.heap.size, 2, none⟩ (.int .i64 m)) := ((Keeps.refl (fun x => x = w.heap.size) X).setCell (p := ⟨w.heap.size, 1, none⟩) (fun _ => rfl) _).setCell (p := ⟨w.heap.size, 2, none⟩) (fun _ => rfl) _
  obtain ⟨p, ht, hT⟩ := h.tree
  refine ⟨⟨(ob _ (fun e => hn (.inl e.symm))).trans h.blk, fun b' e => (ob _ (fun e2 => hn (.inr (.inr (by cases e; exact e2.symm))))).trans (h.cnt b' e), ⟨p, (ob _ (fun e => hn (.inr (.inl e.symm)))).trans ht, hT.on ((Stay.refl _ X).keeps kk (fun i cs' hi e => by subst e; rw [g0] at hi; simp at hi))⟩⟩, L.keeps kk (fun e => ?_), (ob _ (by omega)).trans g1, (ob _ (by omega)).trans gv, ?_, h2⟩
  · have h3 := L.c5
    rw [show World.cell? X ⟨0, 5, none⟩ = none from by rw [← e] at g0; simp [World.cell?, g0]] at h3
    cases h3
  · exact (b.setCell (p := ⟨w.heap.size, 1, none⟩) (by dsimp only; omega) _).setCell (p := ⟨w.heap.size, 2, none⟩) (by dsimp only; omega) _

set_option maxHeartbeats 3200000 in
set_option maxRecDepth 100000 in
theorem write_go (k v : ByteArray) (d : Bool) {Ls : List En} {w : World} {sb g tb : Nat} {nd ck : Int} {T : Tr En Tl} {n : Nat} (H0 : IsSt ((w.alloc (.cells #[.string k, .int .i64 0, .int .i64 0, .string v, .bool d] 39)).alloc (.cells #[.int .i64 0, .int .i64 0] 37)) sb g tb nd ck T n) (L : Lanes ((w.alloc (.cells #[.string k, .int .i64 0, .int .i64 0, .string v, .bool d] 39)).alloc (.cells #[.int .i64 0, .int .i64 0] 37))) (hH : Hol T Ls) (hl : Ls.length ≤ 1000000) (B0 : Below w.heap.size w ((w.alloc (.cells #[.string k, .int .i64 0, .int .i64 0, .string v, .bool d] 39)).alloc (.cells #[.int .i64 0, .int .i64 0] 37)))
    (g0 : ((w.alloc (.cells #[.string k, .int .i64 0, .int .i64 0, .string v, .bool d] 39)).alloc (.cells #[.int .i64 0, .int .i64 0] 37)).heap[w.heap.size]? = some (.cells #[.string k, .int .i64 0, .int .i64 0, .string v, .bool d] 39 (0, 0))) (g1 : ((w.alloc (.cells #[.string k, .int .i64 0, .int .i64 0, .string v, .bool d] 39)).alloc (.cells #[.int .i64 0, .int .i64 0] 37)).heap[w.heap.size + 1]? = some (.cells #[.int .i64 0, .int .i64 0] 37 (0, 0))) (h1 : ¬ (16 : Int) < k.size) (h2 : ¬ (32 : Int) < v.size)
    (CR : Hid (∀ (W : World), IsSt W sb g tb nd ck T n → Calls Tryd.prog 35 #[.pointer (some ⟨sb, 0, none⟩), .string k] W fun r w' => r = .returned (.bool true) ∧ Below W.heap.size W w')) (HE : Hid (wrErr k v nd ck Ls = (Vs.nx ck nd).2.2))
    (q0 : ((w.alloc (.cells #[.string k, .int .i64 0, .int .i64 0, .string v, .bool d] 39)).alloc (.cells #[.int .i64 0, .int .i64 0] 37)).cell? ⟨w.heap.size, 0, none⟩ = some (.string k)) (q3 : ((w.alloc (.cells #[.string k, .int .i64 0, .int .i64 0, .string v, .bool d] 39)).alloc (.cells #[.int .i64 0, .int .i64 0] 37)).cell? ⟨w.heap.size, 3, none⟩ = some (.string v)) :
    Calls Tryd.prog 33 #[.pointer (some ⟨sb, 0, none⟩), .agg #[.string k, .int .i64 0, .int .i64 0, .string v, .bool d]] w fun r w' => ∃ c m er, r = .returned (.tuple #[.agg #[.int .i64 c, .int .i64 m], .int .i64 er]) ∧ er = wrErr k v nd ck Ls ∧ Keeps (Of sb g tb) w w' ∧
      ((er ≠ 0 ∧ c = 0 ∧ m = 0 ∧ IsSt w' sb g tb nd ck T n) ∨ (er = 0 ∧ c = ck + 1 ∧ m = nd ∧ IsSt w' sb g tb nd (ck + 1) (Tr.put k (wrEn k v d nd ck) (tof (wrEn k v d nd ck)) T) (n + Tr.putC k (wrEn k v d nd ck) (tof (wrEn k v d nd ck)) T))) := by
  have H := aside H0
  have B := aside B0
  have G0 := aside g0
  have G1 := aside g1
  have LL := aside L
  obtain ⟨c, m, er, hnx⟩ : ∃ c m er, Vs.nx ck nd = (c, m, er) := ⟨_, _, _, rfl⟩
  have CN := aside (fun (W : World) => next_at hnx W)
  rw [hnx] at HE
  have HN : Hid ((er ≠ 0 ∧ c = 0 ∧ m = 0) ∨ (er = 0 ∧ c = ck + 1 ∧ m = nd ∧ ck < 1099511627776)) := by
    rcases nx_cases ck nd with h | h | ⟨h, h4, h5, -⟩ <;> rw [hnx] at h <;> injection h with h5 h6 <;> injection h6 with h6 h7 <;> subst h5 h6 h7
    · exact .inl ⟨by decide, rfl, rfl⟩
    · exact .inl ⟨by decide, rfl, rfl⟩
    · exact .inr ⟨rfl, rfl, rfl, h5⟩
  have CH := aside (fun (W : World) (h : IsSt W sb g tb nd ck T n) (hL : Lanes W) => shold ⟨k, c, m, v, d⟩ h hL hH hl (by dsimp only; omega))
  dsimp only at CH
  clear H0 B0 g0 g1 L hH hl hnx
  go_enter Tryd.func33, Tryd.ntmps33
  go_wp2_with fail
  refine (CR.out _ H.out).mono ?_
  rintro e w1 ⟨rfl, b1⟩
  have H1 := aside (H.out.below b1)
  have B1 := aside (bthen B.out b1)
  have G01 := aside (blk_on G0.out b1)
  have G11 := aside (blk_on G1.out b1)
  have L1 := aside (LL.out.keep b1)
  clear b1 q0 q3 H G0 G1 B CR LL
  go_wp2_with fail
  refine wp_region_held_drew (S := fun X => X.cell? ⟨sb, 0, none⟩ = some (.int .i64 nd) ∧ X.cell? ⟨sb, 1, none⟩ = some (.int .i64 ck)) (by kernel_rfl) ⟨(quad H1.out.drew.blk).1, (quad H1.out.drew.blk).2.1⟩ (fun hHeld => ?_)
  refine wpAnyH_take (i := 0) (v := ?_) rfl (by kernel_rfl) (by kernel_rfl) (by kernel_rfl) (fun _ _ _ h => h) (Or.inl ⟨by rfl, ?_⟩) (by assumption) ?_
  rotate_left
  · intro w hSw
    go_simp
    try with_reducible rfl
  simp only [Act.put, List.getElem_toArray, List.getElem_cons_zero, List.setIfInBounds_toArray, List.set_cons_zero, List.set_cons_succ]
  refine wpAnyH_take (i := 1) (v := ?_) rfl (by kernel_rfl) (by kernel_rfl) (by kernel_rfl) (fun _ _ _ h => h) (Or.inl ⟨by rfl, ?_⟩) (by assumption) ?_
  rotate_left
  · intro w hSw
    go_simp
    try with_reducible rfl
  simp only [Act.put, List.getElem_toArray, List.getElem_cons_zero, List.getElem_cons_succ, List.setIfInBounds_toArray, List.set_cons_zero, List.set_cons_succ]
  refine wpAnyH_take (i := 2) (v := ?_) rfl (by kernel_rfl) (by kernel_rfl) (by kernel_rfl) (fun _ _ _ h => h) (Or.inl ⟨by rfl, ?_⟩) (by assumption) ?_
  rotate_left
  · intro w hSw
    go_simp
    try with_reducible rfl
  simp only [Act.put, List.getElem_toArray, List.getElem_cons_zero, List.getElem_cons_succ, List.setIfInBounds_toArray, List.set_cons_zero, List.set_cons_succ]
  refine wpAnyH_take (i := 3) (v := ?_) rfl (by kernel_rfl) (by kernel_rfl) (by kernel_rfl) (fun _ _ _ h => h) (Or.inl ⟨by rfl, ?_⟩) (by assumption) ?_
  rotate_left
  · intro w hSw
    go_simp
    try with_reducible rfl
  simp only [Act.put, List.getElem_toArray, List.getElem_cons_zero, List.getElem_cons_succ, List.setIfInBounds_toArray, List.set_cons_zero, List.set_cons_succ]
  refine wpAnyH_take (i := 4) (v := ?_) rfl (by kernel_rfl) (by kernel_rfl) (by kernel_rfl) (fun _ _ _ h => h) (Or.inl ⟨by rfl, ?_⟩) (by assumption) ?_
  rotate_left
  · intro w hSw
    go_simp
    try with_reducible rfl
  simp only [Act.put, List.getElem_toArray, List.getElem_cons_zero, List.getElem_cons_succ, List.setIfInBounds_toArray, List.set_cons_zero, List.set_cons_succ]
  refine wpAnyH_take (i := 5) (v := ?_) rfl (by kernel_rfl) (by kernel_rfl) (by kernel_rfl) (fun _ _ _ h => h) (Or.inl ⟨by rfl, ?_⟩) (by assumption) ?_
  rotate_left
  · intro w hSw
    go_simp
    try with_reducible rfl
  simp only [Act.put, List.getElem_toArray, List.getElem_cons_zero, List.getElem_cons_succ, List.setIfInBounds_toArray, List.set_cons_zero, List.set_cons_succ]
  refine wpAnyH_take (i := 6) (v := ?_) rfl (by kernel_rfl) (by kernel_rfl) (by kernel_rfl) (fun _ _ _ h => h) (Or.inl ⟨by rfl, ?_⟩) (by assumption) ?_
  rotate_left
  · intro w hSw
    go_simp
    try with_reducible rfl
  simp only [Act.put, List.getElem_toArray, List.getElem_cons_zero, List.getElem_cons_succ, List.setIfInBounds_toArray, List.set_cons_zero, List.set_cons_succ]
  refine wpAnyH_take (i := 7) (v := ?_) rfl (by kernel_rfl) (by kernel_rfl) (by kernel_rfl) (fun _ _ _ h => h) (Or.inl ⟨by rfl, ?_⟩) (by assumption) ?_
  rotate_left
  · intro w hSw
    go_simp
    try with_reducible rfl
  simp only [Act.put, List.getElem_toArray, List.getElem_cons_zero, List.getElem_cons_succ, List.setIfInBounds_toArray, List.set_cons_zero, List.set_cons_succ]
  refine wpAnyH_ready (rs := [8, 12]) (by kernel_rfl) (by simp) ?_
  refine AllReadyH.cons rfl (fun K hK => ?_) (AllReadyH.cons rfl (fun K hK => ?_) AllReadyH.nil)
  · go_simp
    refine (CN.out _).mono ?_
    rintro e w9 ⟨rfl, bb⟩
    have HX := aside (H1.out.drew.below bb)
    refine hK.out _ _ (⟨(quad HX.out.blk).1, (quad HX.out.blk).2.1⟩) (fun hHeld => ?_)
    clear hK K
    have H2 := aside (HX.out.alloc (.cells #[.int .i64 c, .int .i64 m] 37))
    have B2 := aside (bthen (bthen B1.out.drew bb) (bnew _ (.cells #[.int .i64 c, .int .i64 m] 37)))
    have G02 := aside (blk_on (blk_on (show w1.drew.heap[w.heap.size]? = some _ from G01.out) bb) (bnew _ (.cells #[.int .i64 c, .int .i64 m] 37)))
    have G12 := aside (blk_on (blk_on (show w1.drew.heap[w.heap.size + 1]? = some _ from G11.out) bb) (bnew _ (.cells #[.int .i64 c, .int .i64 m] 37)))
    have L2 := aside ((L1.out.drew.keep bb).keep (bnew _ (.cells #[.int .i64 c, .int .i64 m] 37)))
    have GV := aside (heap_alloc_new w9 (.cells #[.int .i64 c, .int .i64 m] 37))
    have HV := aside (show w.heap.size + 2 ≤ w9.heap.size from by have := lt_of_blk (blk_on (show w1.drew.heap[w.heap.size + 1]? = some _ from G11.out) bb); omega)
    clear bb
    refine wpAnyH_take (i := 9) (v := ?_) rfl (by kernel_rfl) (by kernel_rfl) (by kernel_rfl) (fun _ _ _ h => h) (Or.inl ⟨by rfl, ?_⟩) (by assumption) ?_
    rotate_left
    · intro w hSw
      go_simp
      try with_reducible rfl
    simp only [Act.put, List.getElem_toArray, List.getElem_cons_zero, List.getElem_cons_succ, List.setIfInBounds_toArray, List.set_cons_zero, List.set_cons_succ]
    refine wpAnyH_take (i := 10) (v := ?_) rfl (by kernel_rfl) (by kernel_rfl) (by kernel_rfl) (fun _ _ _ h => h) (Or.inl ⟨by rfl, ?_⟩) (by assumption) ?_
    rotate_left
    · intro w hSw
      go_simp
      try with_reducible rfl
    simp only [Act.put, List.getElem_toArray, List.getElem_cons_zero, List.getElem_cons_succ, List.setIfInBounds_toArray, List.set_cons_zero, List.set_cons_succ]
    refine wpAnyH_take (i := 11) (v := ?_) rfl (by kernel_rfl) (by kernel_rfl) (by kernel_rfl) (fun _ _ _ h => h) (Or.inl ⟨by rfl, ?_⟩) (by assumption) ?_
    rotate_left
    · intro w hSw
      go_simp
      try with_reducible rfl
    simp only [Act.put, List.getElem_toArray, List.getElem_cons_zero, List.getElem_cons_succ, List.setIfInBounds_toArray, List.set_cons_zero, List.set_cons_succ]
    refine wpAnyH_ready (rs := [12]) (by kernel_rfl) (by simp) ?_
    refine AllReadyH.cons rfl (fun K hK => ?_) AllReadyH.nil
    go_simp
    refine hK.out _ _ (⟨(quad (HX.out.alloc _).blk).1, (quad (HX.out.alloc _).blk).2.1⟩) (fun hHeld => ?_)
    clear hK K 
    refine wpAnyH_ready (rs := [13]) (by kernel_rfl) (by simp) ?_
    refine AllReadyH.cons rfl (fun K hK => ?_) AllReadyH.nil
    go_simp
    refine hK.out _ _ (⟨(quad (HX.out.alloc _).blk).1, (quad (HX.out.alloc _).blk).2.1⟩) (fun hHeld => ?_)
    clear hK K 
    refine wpAnyH_take (i := 14) (v := ?_) rfl (by kernel_rfl) (by kernel_rfl) (by kernel_rfl) (fun _ _ _ h => h) (Or.inl ⟨by rfl, ?_⟩) (by assumption) ?_
    rotate_left
    · intro w hSw
      go_simp
      try with_reducible rfl
    simp only [Act.put, List.getElem_toArray, List.getElem_cons_zero, List.getElem_cons_succ, List.setIfInBounds_toArray, List.set_cons_zero, List.set_cons_succ]
    refine wpAnyH_done (by kernel_rfl) ?_ _
    clear hHeld HX H1 B1 G01 G11 L1 CN
    generalize w9.alloc (.cells #[.int .i64 c, .int .i64 m] 37) = X at *
    generalize w9.heap.size = vb at *
    rcases HN.out with ⟨he, rfl, rfl⟩ | ⟨rfl, rfl, rfl, hck⟩
    · have he' : (er == 0) = false := beq_eq_false_iff_ne.2 he
      have HEr := aside he
      clear he
      obtain ⟨s0, s1, z0, z1⟩ := pair G12.out
      have E := aside (ver_end (i := 1) H2.out (Keeps.of_below B2.out _) G12.out 0 0)
      go_wp2
      refine bodyPost_ret (v := .tuple #[.agg #[.int .i64 0, .int .i64 0], .int .i64 er]) (by simp [results, Tryd.results33, go_sem, s0, s1]) rfl ⟨0, 0, er, rfl, HE.out.symm, E.out.2, .inl ⟨HEr.out, rfl, rfl, E.out.1⟩⟩
    · clear hck
      obtain ⟨v0, v1, -, -⟩ := pair GV.out
      obtain ⟨q0, q1, q2, q3, q4, y0, y1, y2, y3, y4⟩ := penta G02.out
      have WB := aside (wr_box H2.out B2.out L2.out G02.out G12.out GV.out HV.out)
      go_wp2_with fail
      obtain ⟨H3, L3, G13, GV3, K3, q3'⟩ := WB.out
      refine (CH.out _ H3 L3).mono ?_
      rintro r w4 ⟨rfl, h4, k4⟩
      have ec : ckm ck (ck + 1) = ck + 1 := by unfold ckm; rw [if_pos (by omega)]
      rw [ec] at h4
      have G14 := aside (blk_keep G13 k4 (H3.not G13 (by decide) (by decide) (by decide)))
      have GV4 := aside (blk_keep GV3 k4 (H3.not GV3 (by decide) (by decide) (by decide)))
      have E := aside (ver_end (i := 1) h4 ((Keeps.of_below K3 _).trans k4) G14.out (ck + 1) m)
      clear h4 k4 H3 L3 G13 GV3 K3 q3' WB CH q0 q1 q2 q3 q4 y0 y1 y2 y3 y4 v0 v1 ec
      obtain ⟨v0, v1, -, -⟩ := pair GV4.out
      obtain ⟨s0, s1, z0, z1⟩ := pair G14.out
      go_wp2
      refine bodyPost_ret (v := .tuple #[.agg #[.int .i64 (ck + 1), .int .i64 m], .int .i64 0]) (by simp [results, Tryd.results33, go_sem, s0, s1]) rfl ⟨ck + 1, m, 0, rfl, HE.out.symm, E.out.2, .inr ⟨rfl, rfl, rfl, E.out.1⟩⟩
  · go_simp
    refine hK.out _ _ (⟨(quad (H1.out.alloc _).drew.blk).1, (quad (H1.out.alloc _).drew.blk).2.1⟩) (fun hHeld => ?_)
    clear hK K
    have HX := aside (H1.out.alloc (.cells #[.int .i64 0, .int .i64 0] 37)).drew
    have GX := aside (show (w1.alloc (.cells #[.int .i64 0, .int .i64 0] 37)).drew.heap[w1.heap.size]? = some (.cells #[.int .i64 0, .int .i64 0] 37 (0, 0)) from heap_alloc_new w1 _)
    have BX := aside (bthen B1.out (bnew _ (.cells #[.int .i64 0, .int .i64 0] 37))).drew
    have G0X := aside (show (w1.alloc (.cells #[.int .i64 0, .int .i64 0] 37)).drew.heap[w.heap.size]? = some _ from blk_on G01.out (bnew _ _).drew)
    have G1X := aside (show (w1.alloc (.cells #[.int .i64 0, .int .i64 0] 37)).drew.heap[w.heap.size + 1]? = some _ from blk_on G11.out (bnew _ _).drew)
    have LX := aside (L1.out.keep (bnew _ (.cells #[.int .i64 0, .int .i64 0] 37))).drew
    have HV := aside (show w.heap.size + 2 ≤ w1.heap.size from by have := lt_of_blk G11.out; omega)
    clear H1 B1 G01 G11 L1
    generalize w1.heap.size = vb at *
    refine wpAnyH_ready (rs := [8]) (by kernel_rfl) (by simp) ?_
    refine AllReadyH.cons rfl (fun K hK => ?_) AllReadyH.nil
    go_simp
    refine (CN.out _).mono ?_
    rintro e w9 ⟨rfl, bb⟩
    refine hK.out _ _ (⟨(quad (HX.out.below bb).blk).1, (quad (HX.out.below bb).blk).2.1⟩) (fun hHeld => ?_)
    clear hK K 
    have HY := aside (HX.out.below bb)
    have GY := aside (blk_on GX.out bb)
    have BY := aside (BX.out.trans (bb.mono BX.out.size))
    have G0Y := aside (blk_on G0X.out bb)
    have G1Y := aside (blk_on G1X.out bb)
    have LY := aside (LX.out.keep bb)
    clear bb
    refine wpAnyH_take (i := 9) (v := ?_) rfl (by kernel_rfl) (by kernel_rfl) (by kernel_rfl) (fun _ _ _ h => h) (Or.inl ⟨by rfl, ?_⟩) (by assumption) ?_
    rotate_left
    · intro w hSw
      go_simp
      try with_reducible rfl
    simp only [Act.put, List.getElem_toArray, List.getElem_cons_zero, List.getElem_cons_succ, List.setIfInBounds_toArray, List.set_cons_zero, List.set_cons_succ]
    refine wpAnyH_take (i := 10) (v := ?_) rfl (by kernel_rfl) (by kernel_rfl) (by kernel_rfl) (fun _ _ _ h => h) (Or.inl ⟨by rfl, ?_⟩) (by assumption) ?_
    rotate_left
    · intro w hSw
      go_simp
      try with_reducible rfl
    simp only [Act.put, List.getElem_toArray, List.getElem_cons_zero, List.getElem_cons_succ, List.setIfInBounds_toArray, List.set_cons_zero, List.set_cons_succ]
    refine wpAnyH_take (i := 11) (v := ?_) rfl (by kernel_rfl) (by kernel_rfl) (by kernel_rfl) (fun _ _ _ h => h) (Or.inl ⟨by rfl, ?_⟩) (by assumption) ?_
    rotate_left
    · intro w hSw
      go_simp
      try with_reducible rfl
    simp only [Act.put, List.getElem_toArray, List.getElem_cons_zero, List.getElem_cons_succ, List.setIfInBounds_toArray, List.set_cons_zero, List.set_cons_succ]
    obtain ⟨u0, u1, o0, o1⟩ := pair GY.out
    have E9 := aside (ver_lay HY.out BY.out LY.out G0Y.out G1Y.out GY.out HV.out c m)
    refine wpAnyH_ready (rs := [13]) (by kernel_rfl) (by simp) ?_
    refine AllReadyH.cons rfl (fun K hK => ?_) AllReadyH.nil
    go_simp
    refine hK.out _ _ (⟨(quad E9.out.1.blk).1, (quad E9.out.1.blk).2.1⟩) (fun hHeld => ?_)
    clear hK K 
    refine wpAnyH_take (i := 14) (v := ?_) rfl (by kernel_rfl) (by kernel_rfl) (by kernel_rfl) (fun _ _ _ h => h) (Or.inl ⟨by rfl, ?_⟩) (by assumption) ?_
    rotate_left
    · intro w hSw
      go_simp
      try with_reducible rfl
    simp only [Act.put, List.getElem_toArray, List.getElem_cons_zero, List.getElem_cons_succ, List.setIfInBounds_toArray, List.set_cons_zero, List.set_cons_succ]
    refine wpAnyH_done (by kernel_rfl) ?_ _
    clear hHeld u0 u1 o0 o1 HX GX BX G0X G1X LX HY GY BY G0Y G1Y LY CN
    generalize (w9.setCell ⟨vb, 0, none⟩ (.int .i64 c)).setCell ⟨vb, 1, none⟩ (.int .i64 m) = X at *
    obtain ⟨H2', B2', L2', G02', G12', GV'⟩ := E9.out
    have H2 := aside H2'
    have B2 := aside B2'
    have L2 := aside L2'
    have G02 := aside G02'
    have G12 := aside G12'
    have GV := aside GV'
    clear H2' B2' L2' G02' G12' GV' E9
    rcases HN.out with ⟨he, rfl, rfl⟩ | ⟨rfl, rfl, rfl, hck⟩
    · have he' : (er == 0) = false := beq_eq_false_iff_ne.2 he
      have HEr := aside he
      clear he
      obtain ⟨s0, s1, z0, z1⟩ := pair G12.out
      have E := aside (ver_end (i := 1) H2.out (Keeps.of_below B2.out _) G12.out 0 0)
      go_wp2
      refine bodyPost_ret (v := .tuple #[.agg #[.int .i64 0, .int .i64 0], .int .i64 er]) (by simp [results, Tryd.results33, go_sem, s0, s1]) rfl ⟨0, 0, er, rfl, HE.out.symm, E.out.2, .inl ⟨HEr.out, rfl, rfl, E.out.1⟩⟩
    · clear hck
      obtain ⟨v0, v1, -, -⟩ := pair GV.out
      obtain ⟨q0, q1, q2, q3, q4, y0, y1, y2, y3, y4⟩ := penta G02.out
      have WB := aside (wr_box H2.out B2.out L2.out G02.out G12.out GV.out HV.out)
      go_wp2_with fail
      obtain ⟨H3, L3, G13, GV3, K3, q3'⟩ := WB.out
      refine (CH.out _ H3 L3).mono ?_
      rintro r w4 ⟨rfl, h4, k4⟩
      have ec : ckm ck (ck + 1) = ck + 1 := by unfold ckm; rw [if_pos (by omega)]
      rw [ec] at h4
      have G14 := aside (blk_keep G13 k4 (H3.not G13 (by decide) (by decide) (by decide)))
      have GV4 := aside (blk_keep GV3 k4 (H3.not GV3 (by decide) (by decide) (by decide)))
      have E := aside (ver_end (i := 1) h4 ((Keeps.of_below K3 _).trans k4) G14.out (ck + 1) m)
      clear h4 k4 H3 L3 G13 GV3 K3 q3' WB CH q0 q1 q2 q3 q4 y0 y1 y2 y3 y4 v0 v1 ec
      obtain ⟨v0, v1, -, -⟩ := pair GV4.out
      obtain ⟨s0, s1, z0, z1⟩ := pair G14.out
      go_wp2
      refine bodyPost_ret (v := .tuple #[.agg #[.int .i64 (ck + 1), .int .i64 m], .int .i64 0]) (by simp [results, Tryd.results33, go_sem, s0, s1]) rfl ⟨ck + 1, m, 0, rfl, HE.out.symm, E.out.2, .inr ⟨rfl, rfl, rfl, E.out.1⟩⟩

set_option maxHeartbeats 3200000 in
set_option maxRecDepth 100000 in
theorem swrite (k v : ByteArray) (d : Bool) {Ls : List En} {w : World} {sb g tb : Nat} {nd ck : Int} {T : Tr En Tl} {n : Nat} (h : IsSt w sb g tb nd ck T n) (L : Lanes w) (hH : Hol T Ls) (hl : Ls.length ≤ 1000000) :
    Calls Tryd.prog 33 #[.pointer (some ⟨sb, 0, none⟩), .agg #[.string k, .int .i64 0, .int .i64 0, .string v, .bool d]] w fun r w' => ∃ c m er, r = .returned (.tuple #[.agg #[.int .i64 c, .int .i64 m], .int .i64 er]) ∧ er = wrErr k v nd ck Ls ∧ Keeps (Of sb g tb) w w' ∧
      ((er ≠ 0 ∧ c = 0 ∧ m = 0 ∧ IsSt w' sb g tb nd ck T n) ∨ (er = 0 ∧ c = ck + 1 ∧ m = nd ∧ IsSt w' sb g tb nd (ck + 1) (Tr.put k (wrEn k v d nd ck) (tof (wrEn k v d nd ck)) T) (n + Tr.putC k (wrEn k v d nd ck) (tof (wrEn k v d nd ck)) T))) := by
  have b0 := bnew w (.cells #[.string k, .int .i64 0, .int .i64 0, .string v, .bool d] 39)
  have b1 := bnew (w.alloc (.cells #[.string k, .int .i64 0, .int .i64 0, .string v, .bool d] 39)) (.cells #[.int .i64 0, .int .i64 0] 37)
  have B := aside (bthen b0 b1)
  have G0 := aside (blk_on (heap_alloc_new w (.cells #[.string k, .int .i64 0, .int .i64 0, .string v, .bool d] 39)) b1)
  have g1 := heap_alloc_new (w.alloc (.cells #[.string k, .int .i64 0, .int .i64 0, .string v, .bool d] 39)) (.cells #[.int .i64 0, .int .i64 0] 37)
  simp only [World.size_alloc] at g1
  have G1 := aside g1
  have H := aside (h.below B.out)
  obtain ⟨q0, q1, q2, q3, q4, y0, y1, y2, y3, y4⟩ := penta G0.out
  obtain ⟨r0, r1, x0, x1⟩ := pair G1.out
  by_cases h1 : (16 : Int) < k.size
  · have HE := aside (show wrErr k v nd ck Ls = 20 from by unfold wrErr; rw [if_pos h1])
    clear h L hH hl b0 b1 g1 q1 q2 q3 q4 y0 y1 y2 y3 y4
    go_enter Tryd.func33, Tryd.ntmps33
    go_wp2
    refine bodyPost_ret (v := .tuple #[.agg #[.int .i64 0, .int .i64 0], .int .i64 20]) (by simp [results, Tryd.results33, go_sem]) rfl ⟨0, 0, 20, rfl, HE.out.symm, Keeps.of_below B.out _, .inl ⟨by decide, rfl, rfl, H.out⟩⟩
  · by_cases h2 : (32 : Int) < v.size
    · have HE := aside (show wrErr k v nd ck Ls = 31 from by unfold wrErr; rw [if_neg h1, if_pos h2])
      clear h L hH hl b0 b1 g1 q1 q2 q4 y0 y1 y2 y3 y4
      go_enter Tryd.func33, Tryd.ntmps33
      go_wp2
      refine bodyPost_ret (v := .tuple #[.agg #[.int .i64 0, .int .i64 0], .int .i64 31]) (by simp [results, Tryd.results33, go_sem]) rfl ⟨0, 0, 31, rfl, HE.out.symm, Keeps.of_below B.out _, .inl ⟨by decide, rfl, rfl, H.out⟩⟩
    · have CR := aside (fun (W : World) (h : IsSt W sb g tb nd ck T n) => sroom k h hH hl)
      cases h3 : roomB k Ls
      · have HE := aside (show wrErr k v nd ck Ls = 80 from by unfold wrErr; rw [if_neg h1, if_neg h2, if_pos h3])
        rw [h3] at CR
        clear h L hH hl b0 b1 g1 h3 y0 y1 y2 y3 y4
        go_enter Tryd.func33, Tryd.ntmps33
        go_wp2_with fail
        refine (CR.out _ H.out).mono ?_
        rintro e w1 ⟨rfl, b1⟩
        have H1 := aside (H.out.below b1)
        have B1 := aside (bthen B.out b1)
        have G1' := aside (blk_on G1.out b1)
        obtain ⟨s0, s1, z0, z1⟩ := pair G1'.out
        have E := aside (ver_end H1.out (Keeps.of_below B1.out (Of sb g tb)) G1'.out 0 0)
        clear b1 q0 q1 q2 q3 q4 r0 r1 x0 x1 H G0 G1 B
        go_wp2
        refine bodyPost_ret (v := .tuple #[.agg #[.int .i64 0, .int .i64 0], .int .i64 80]) (by simp [results, Tryd.results33, go_sem, s0, s1]) rfl ⟨0, 0, 80, rfl, HE.out.symm, E.out.2, .inl ⟨by decide, rfl, rfl, E.out.1⟩⟩
      · have HE := aside (show wrErr k v nd ck Ls = (Vs.nx ck nd).2.2 from by unfold wrErr; rw [if_neg h1, if_neg h2, if_neg (by rw [h3]; decide)])
        rw [h3] at CR
        exact write_go k v d H.out (L.keep B.out) hH hl B.out G0.out G1.out h1 h2 CR HE q0 q3

end Go.Proofs.YtlgcdcjhflihiaaDoor
namespace Go.Proofs.YtlgcdcjhflihiaaDoor
open Go.RowKit
set_option linter.unusedVariables false

set_option maxHeartbeats 3200000 in
set_option maxRecDepth 100000 in
theorem sput (k v : ByteArray) {Ls : List En} {w : World} {sb g tb : Nat} {nd ck : Int} {T : Tr En Tl} {n : Nat} (h : IsSt w sb g tb nd ck T n) (L : Lanes w) (hH : Hol T Ls) (hl : Ls.length ≤ 1000000) :
    Calls Tryd.prog 15 #[.pointer (some ⟨sb, 0, none⟩), .string k, .string v] w fun r w' => ∃ c m er, r = .returned (.tuple #[.agg #[.int .i64 c, .int .i64 m], .int .i64 er]) ∧ er = wrErr k v nd ck Ls ∧ Keeps (Of sb g tb) w w' ∧
      ((er ≠ 0 ∧ c = 0 ∧ m = 0 ∧ IsSt w' sb g tb nd ck T n) ∨ (er = 0 ∧ c = ck + 1 ∧ m = nd ∧ IsSt w' sb g tb nd (ck + 1) (Tr.put k (wrEn k v false nd ck) (tof (wrEn k v false nd ck)) T) (n + Tr.putC k (wrEn k v false nd ck) (tof (wrEn k v false nd ck)) T))) := by
  have B0 := aside (bnew w (.cells #[.int .i64 0, .int .i64 0] 37))
  have G0 := aside (heap_alloc_new w (.cells #[.int .i64 0, .int .i64 0] 37))
  have H := aside (h.alloc (.cells #[.int .i64 0, .int .i64 0] 37))
  have C := aside (swrite k v false H.out (L.keep B0.out) hH hl)
  clear h L hH hl
  go_enter Tryd.func15, Tryd.ntmps15
  go_wp2_with fail
  refine C.out.mono ?_
  rintro r w1 ⟨c, m, er, rfl, he, k1, hs⟩
  have HE := aside he
  have HS := aside hs
  have K1 := aside ((Keeps.of_below B0.out _).trans k1)
  have G1 := aside (blk_keep G0.out k1 (H.out.not G0.out (by decide) (by decide) (by decide)))
  clear he hs k1 C G0 B0 H
  obtain ⟨s0, s1, z0, z1⟩ := pair G1.out
  go_wp2
  rcases HS.out with ⟨h1, h2, h3, h4⟩ | ⟨h1, h2, h3, h4⟩
  · have E := ver_end (i := 0) h4 K1.out G1.out c m
    exact bodyPost_ret (v := .tuple #[.agg #[.int .i64 c, .int .i64 m], .int .i64 er]) (by simp [results, Tryd.results15, go_sem, s0, s1]) rfl ⟨c, m, er, rfl, HE.out, E.2, .inl ⟨h1, h2, h3, E.1⟩⟩
  · have E := ver_end (i := 0) h4 K1.out G1.out c m
    exact bodyPost_ret (v := .tuple #[.agg #[.int .i64 c, .int .i64 m], .int .i64 er]) (by simp [results, Tryd.results15, go_sem, s0, s1]) rfl ⟨c, m, er, rfl, HE.out, E.2, .inr ⟨h1, h2, h3, E.1⟩⟩

set_option maxHeartbeats 3200000 in
set_option maxRecDepth 100000 in
theorem sdel (k : ByteArray) {Ls : List En} {w : World} {sb g tb : Nat} {nd ck : Int} {T : Tr En Tl} {n : Nat} (h : IsSt w sb g tb nd ck T n) (L : Lanes w) (hH : Hol T Ls) (hl : Ls.length ≤ 1000000) :
    Calls Tryd.prog 16 #[.pointer (some ⟨sb, 0, none⟩), .string k] w fun r w' => ∃ c m er, r = .returned (.tuple #[.agg #[.int .i64 c, .int .i64 m], .int .i64 er]) ∧ er = wrErr k ⟨#[]⟩ nd ck Ls ∧ Keeps (Of sb g tb) w w' ∧
      ((er ≠ 0 ∧ c = 0 ∧ m = 0 ∧ IsSt w' sb g tb nd ck T n) ∨ (er = 0 ∧ c = ck + 1 ∧ m = nd ∧ IsSt w' sb g tb nd (ck + 1) (Tr.put k (wrEn k ⟨#[]⟩ true nd ck) (tof (wrEn k ⟨#[]⟩ true nd ck)) T) (n + Tr.putC k (wrEn k ⟨#[]⟩ true nd ck) (tof (wrEn k ⟨#[]⟩ true nd ck)) T))) := by
  have B0 := aside (bnew w (.cells #[.int .i64 0, .int .i64 0] 37))
  have G0 := aside (heap_alloc_new w (.cells #[.int .i64 0, .int .i64 0] 37))
  have H := aside (h.alloc (.cells #[.int .i64 0, .int .i64 0] 37))
  have C := aside (swrite k ⟨#[]⟩ true H.out (L.keep B0.out) hH hl)
  clear h L hH hl
  go_enter Tryd.func16, Tryd.ntmps16
  go_wp2_with fail
  refine C.out.mono ?_
  rintro r w1 ⟨c, m, er, rfl, he, k1, hs⟩
  have HE := aside he
  have HS := aside hs
  have K1 := aside ((Keeps.of_below B0.out _).trans k1)
  have G1 := aside (blk_keep G0.out k1 (H.out.not G0.out (by decide) (by decide) (by decide)))
  clear he hs k1 C G0 B0 H
  obtain ⟨s0, s1, z0, z1⟩ := pair G1.out
  go_wp2
  rcases HS.out with ⟨h1, h2, h3, h4⟩ | ⟨h1, h2, h3, h4⟩
  · have E := ver_end (i := 0) h4 K1.out G1.out c m
    exact bodyPost_ret (v := .tuple #[.agg #[.int .i64 c, .int .i64 m], .int .i64 er]) (by simp [results, Tryd.results16, go_sem, s0, s1]) rfl ⟨c, m, er, rfl, HE.out, E.2, .inl ⟨h1, h2, h3, E.1⟩⟩
  · have E := ver_end (i := 0) h4 K1.out G1.out c m
    exact bodyPost_ret (v := .tuple #[.agg #[.int .i64 c, .int .i64 m], .int .i64 er]) (by simp [results, Tryd.results16, go_sem, s0, s1]) rfl ⟨c, m, er, rfl, HE.out, E.2, .inr ⟨h1, h2, h3, E.1⟩⟩

/-- What Take does: refused by a number, passed by, or taken. -/
def tkSay (e : En) (Ls : List En) : Int × Bool :=
  if e.chk ≠ 0 then (e.chk, false) else if roomB e.k Ls = false then (80, false) else
    match lookE e.k Ls with
    | none => (0, true)
    | some o => (0, En.newer e o)

theorem old_lay {w X : World} {sb g tb ob : Nat} {nd ck : Int} {T : Tr En Tl} {n : Nat} {cs : Array Value} {x0 x1 x2 x3 x4 : Value} {o : En} (h : IsSt X sb g tb nd ck T n) (b : Below w.heap.size w X) (L : Lanes X) (g0 : X.heap[w.heap.size]? = some (.cells cs 39 (0, 0))) (gv : X.heap[ob]? = some (.cells #[x0, x1, x2, x3, x4] 39 (0, 0))) (hv : w.heap.size < ob) :
    (fun Y : World => IsSt Y sb g tb nd ck T n ∧ Below w.heap.size w Y ∧ Lanes Y ∧ Y.heap[w.heap.size]? = some (.cells cs 39 (0, 0)) ∧ Y.heap[ob]? = some (.cells #[.string o.k, .int .i64 o.c, .int .i64 o.n, .string o.v, .bool o.d] 39 (0, 0))) (setE X ob o) := by
  have hn := h.not gv (by decide) (by decide) (by decide)
  have kk : Keeps (fun x => x = ob) X (setE X ob o) := (Keeps.refl (fun x => x = ob) X).setE (fun _ => rfl) o
  obtain ⟨p, ht, hT⟩ := h.tree
  refine ⟨⟨(setE_other _ _ _ _ (fun e => hn (.inl e.symm))).trans h.blk, fun b' e => (setE_other _ _ _ _ (fun e2 => hn (.inr (.inr (by cases e; exact e2.symm))))).trans (h.cnt b' e), ⟨p, (setE_other _ _ _ _ (fun e => hn (.inr (.inl e.symm)))).trans ht, hT.on ((Stay.refl _ X).keeps kk (fun i cs' hi e => by subst e; rw [gv] at hi; simp at hi))⟩⟩, ?_, L.keeps kk (fun e => ?_), (setE_other _ _ _ _ (by omega)).trans g0, setE_same gv o⟩
  · have k2 : Keeps (fun x => w.heap.size ≤ x) X (setE X ob o) := kk.mono (fun _ _ e => by subst e; omega)
    exact b.trans (k2.below b.size (fun k hk e => by omega))
  · have h3 := L.c5
    rw [show World.cell? X ⟨0, 5, none⟩ = none from by rw [← e] at gv; simp [World.cell?, gv]] at h3
    cases h3

set_option maxHeartbeats 3200000 in
set_option maxRecDepth 100000 in
theorem stake (e : En) {Ls : List En} {w : World} {sb g tb : Nat} {nd ck : Int} {T : Tr En Tl} {n : Nat} (h : IsSt w sb g tb nd ck T n) (L : Lanes w) (hH : Hol T Ls) (hl : Ls.length ≤ 1000000) :
    Calls Tryd.prog 17 #[.pointer (some ⟨sb, 0, none⟩), .agg #[.string e.k, .int .i64 e.c, .int .i64 e.n, .string e.v, .bool e.d]] w fun r w' => r = .returned (.tuple #[.bool (tkSay e Ls).2, .int .i64 (tkSay e Ls).1]) ∧ Keeps (Of sb g tb) w w' ∧
      (((tkSay e Ls).2 = false ∧ IsSt w' sb g tb nd ck T n) ∨ ((tkSay e Ls).2 = true ∧ IsSt w' sb g tb nd (ckm ck e.c) (Tr.put e.k e (tof e) T) (n + Tr.putC e.k e (tof e) T))) := by
  have B0 := aside (bnew w (.cells #[.string e.k, .int .i64 e.c, .int .i64 e.n, .string e.v, .bool e.d] 39))
  have G0 := aside (heap_alloc_new w (.cells #[.string e.k, .int .i64 e.c, .int .i64 e.n, .string e.v, .bool e.d] 39))
  have H := aside (h.alloc (.cells #[.string e.k, .int .i64 e.c, .int .i64 e.n, .string e.v, .bool e.d] 39))
  have LL := aside (L.keep B0.out)
  obtain ⟨q0, q1, q2, q3, q4, -⟩ := penta G0.out
  obtain ⟨c, hc⟩ : ∃ c, e.chk = c := ⟨_, rfl⟩
  have CK := aside (fun (W : World) => ichk_any e.k e.c e.n e.v e.d W)
  rw [show En.chk ⟨e.k, e.c, e.n, e.v, e.d⟩ = c from hc] at CK
  by_cases h0 : c = 0
  · subst h0
    have hkk : e.k.size ≤ 16 := by
      by_cases hx : (16 : Int) < e.k.size
      · unfold En.chk at hc; rw [if_pos hx] at hc; cases hc
      · omega
    have CR := aside (fun (W : World) (h : IsSt W sb g tb nd ck T n) => sroom e.k h hH hl)
    cases h3 : roomB e.k Ls
    · have ht : tkSay e Ls = (80, false) := by unfold tkSay; rw [if_neg (by rw [hc]; decide), if_pos h3]
      have HT := aside ht
      rw [h3] at CR
      clear h L hH hl hc h3 ht
      go_enter Tryd.func17, Tryd.ntmps17
      go_wp2_with fail
      refine (CK.out _).mono ?_
      rintro r w1 ⟨rfl, b1⟩
      have H1 := aside (H.out.below b1)
      have B1 := aside (bthen B0.out b1)
      obtain ⟨p0, -⟩ := penta (blk_on G0.out b1)
      clear b1 q0 q1 q2 q3 q4
      go_wp2_with fail
      refine (CR.out _ H1.out).mono ?_
      rintro r w2 ⟨rfl, b2⟩
      have H2 := aside (H1.out.below b2)
      have B2 := aside (bthen B1.out b2)
      clear b2
      have ht := HT.out
      go_wp2
      go_ret2
      exact ⟨by rw [ht]; rfl, Keeps.of_below B2.out _, .inl ⟨by rw [ht], H2.out⟩⟩
    · rw [h3] at CR
      have CH := aside (fun (W : World) (h : IsSt W sb g tb nd ck T n) (hL : Lanes W) => shold e h hL hH hl (by omega))
      cases hL : lookE e.k Ls with
      | none =>
        have HT := aside (show tkSay e Ls = (0, true) from by unfold tkSay; rw [if_neg (by rw [hc]; decide), if_neg (by rw [h3]; decide), hL])
        obtain ⟨o, ho⟩ : ∃ o, (lookE e.k Ls).getD eNone = o := ⟨_, rfl⟩
        have CG := aside (fun (W : World) (h : TreeE W tb (jvE g) T) => yget_at e.k h hH hl ho (show (lookE e.k Ls).isSome = false from by rw [hL]; rfl))
        clear h L hH hl hc h3 hL ho
        go_enter Tryd.func17, Tryd.ntmps17
        go_wp2_with fail
        refine (CK.out _).mono ?_
        rintro r w0 ⟨rfl, b0⟩
        have H0 := aside (H.out.below b0)
        have B0' := aside (bthen B0.out b0)
        have G00 := aside (blk_on G0.out b0)
        have L0 := aside (LL.out.keep b0)
        obtain ⟨p0, -⟩ := penta G00.out
        clear b0 q0 q1 q2 q3 q4
        go_wp2_with fail
        refine (CR.out _ H0.out).mono ?_
        rintro r w1 ⟨rfl, b1⟩
        have H1 := aside (H0.out.below b1)
        have B1 := aside (bthen B0'.out b1)
        have G01 := aside (blk_on G00.out b1)
        have L1 := aside (L0.out.keep b1)
        clear b1 p0 H0 B0' G00 L0 H B0 G0 LL CK CR
        go_wp2_with fail
        refine wp_region_held_drew (S := fun X => X.cell? ⟨sb, 3, none⟩ = some (.pointer (some ⟨tb, 0, none⟩)) ∧ X.cell? ⟨w.heap.size, 0, none⟩ = some (.string e.k) ∧ X.cell? ⟨w.heap.size, 1, none⟩ = some (.int .i64 e.c) ∧ X.cell? ⟨w.heap.size, 2, none⟩ = some (.int .i64 e.n) ∧ X.cell? ⟨w.heap.size, 3, none⟩ = some (.string e.v) ∧ X.cell? ⟨w.heap.size, 4, none⟩ = some (.bool e.d)) (by kernel_rfl) (held_hold H1.out.drew G01.out) (fun hHeld => ?_)
        refine wpAnyH_take (i := 0) (v := ?_) rfl (by kernel_rfl) (by kernel_rfl) (by kernel_rfl) (fun _ _ _ h => h) (Or.inl ⟨by rfl, ?_⟩) (by assumption) ?_
        rotate_left
        · intro w hSw
          go_simp
          try with_reducible rfl
        simp only [Act.put, List.getElem_toArray, List.getElem_cons_zero, List.setIfInBounds_toArray, List.set_cons_zero, List.set_cons_succ]
        refine wpAnyH_take (i := 1) (v := ?_) rfl (by kernel_rfl) (by kernel_rfl) (by kernel_rfl) (fun _ _ _ h => h) (Or.inl ⟨by rfl, ?_⟩) (by assumption) ?_
        rotate_left
        · intro w hSw
          go_simp
          try with_reducible rfl
        simp only [Act.put, List.getElem_toArray, List.getElem_cons_zero, List.getElem_cons_succ, List.setIfInBounds_toArray, List.set_cons_zero, List.set_cons_succ]
        refine wpAnyH_take (i := 2) (v := ?_) rfl (by kernel_rfl) (by kernel_rfl) (by kernel_rfl) (fun _ _ _ h => h) (Or.inl ⟨by rfl, ?_⟩) (by assumption) ?_
        rotate_left
        · intro w hSw
          go_simp
          try with_reducible rfl
        simp only [Act.put, List.getElem_toArray, List.getElem_cons_zero, List.getElem_cons_succ, List.setIfInBounds_toArray, List.set_cons_zero, List.set_cons_succ]
        refine wpAnyH_take (i := 3) (v := ?_) rfl (by kernel_rfl) (by kernel_rfl) (by kernel_rfl) (fun _ _ _ h => h) (Or.inl ⟨by rfl, ?_⟩) (by assumption) ?_
        rotate_left
        · intro w hSw
          go_simp
          try with_reducible rfl
        simp only [Act.put, List.getElem_toArray, List.getElem_cons_zero, List.getElem_cons_succ, List.setIfInBounds_toArray, List.set_cons_zero, List.set_cons_succ]
        refine wpAnyH_take (i := 4) (v := ?_) rfl (by kernel_rfl) (by kernel_rfl) (by kernel_rfl) (fun _ _ _ h => h) (Or.inl ⟨by rfl, ?_⟩) (by assumption) ?_
        rotate_left
        · intro w hSw
          go_simp
          try with_reducible rfl
        simp only [Act.put, List.getElem_toArray, List.getElem_cons_zero, List.getElem_cons_succ, List.setIfInBounds_toArray, List.set_cons_zero, List.set_cons_succ]
        refine wpAnyH_take (i := 5) (v := ?_) rfl (by kernel_rfl) (by kernel_rfl) (by kernel_rfl) (fun _ _ _ h => h) (Or.inl ⟨by rfl, ?_⟩) (by assumption) ?_
        rotate_left
        · intro w hSw
          go_simp
          try with_reducible rfl
        simp only [Act.put, List.getElem_toArray, List.getElem_cons_zero, List.getElem_cons_succ, List.setIfInBounds_toArray, List.set_cons_zero, List.set_cons_succ]
        refine wpAnyH_ready (rs := [6, 10]) (by kernel_rfl) (by simp) ?_
        refine AllReadyH.cons rfl (fun K hK => ?_) (AllReadyH.cons rfl (fun K hK => ?_) AllReadyH.nil)
        · go_simp
          refine (CG.out _ H1.out.drew.tree).mono ?_
          rintro r w9 ⟨rfl, bb⟩
          have HX := aside (H1.out.drew.below bb)
          have G0X := aside (blk_on (show w1.drew.heap[w.heap.size]? = some _ from G01.out) bb)
          refine hK.out _ _ (held_hold HX.out G0X.out) (fun hHeld => ?_)
          clear hK K
          have H2 := aside (HX.out.alloc (.cells #[.string o.k, .int .i64 o.c, .int .i64 o.n, .string o.v, .bool o.d] 39))
          have B2 := aside (bthen (bthen B1.out.drew bb) (bnew _ (.cells #[.string o.k, .int .i64 o.c, .int .i64 o.n, .string o.v, .bool o.d] 39)))
          have G02 := aside (blk_on G0X.out (bnew _ (.cells #[.string o.k, .int .i64 o.c, .int .i64 o.n, .string o.v, .bool o.d] 39)))
          have L2 := aside ((L1.out.drew.keep bb).keep (bnew _ (.cells #[.string o.k, .int .i64 o.c, .int .i64 o.n, .string o.v, .bool o.d] 39)))
          have GO := aside (heap_alloc_new w9 (.cells #[.string o.k, .int .i64 o.c, .int .i64 o.n, .string o.v, .bool o.d] 39))
          clear bb
          refine wpAnyH_take (i := 7) (v := ?_) rfl (by kernel_rfl) (by kernel_rfl) (by kernel_rfl) (fun _ _ _ h => h) (Or.inl ⟨by rfl, ?_⟩) (by assumption) ?_
          rotate_left
          · intro w hSw
            go_simp
            try with_reducible rfl
          simp only [Act.put, List.getElem_toArray, List.getElem_cons_zero, List.getElem_cons_succ, List.setIfInBounds_toArray, List.set_cons_zero, List.set_cons_succ]
          refine wpAnyH_take (i := 8) (v := ?_) rfl (by kernel_rfl) (by kernel_rfl) (by kernel_rfl) (fun _ _ _ h => h) (Or.inl ⟨by rfl, ?_⟩) (by assumption) ?_
          rotate_left
          · intro w hSw
            go_simp
            try with_reducible rfl
          simp only [Act.put, List.getElem_toArray, List.getElem_cons_zero, List.getElem_cons_succ, List.setIfInBounds_toArray, List.set_cons_zero, List.set_cons_succ]
          refine wpAnyH_take (i := 9) (v := ?_) rfl (by kernel_rfl) (by kernel_rfl) (by kernel_rfl) (fun _ _ _ h => h) (Or.inl ⟨by rfl, ?_⟩) (by assumption) ?_
          rotate_left
          · intro w hSw
            go_simp
            try with_reducible rfl
          simp only [Act.put, List.getElem_toArray, List.getElem_cons_zero, List.getElem_cons_succ, List.setIfInBounds_toArray, List.set_cons_zero, List.set_cons_succ]
          refine wpAnyH_ready (rs := [10]) (by kernel_rfl) (by simp) ?_
          refine AllReadyH.cons rfl (fun K hK => ?_) AllReadyH.nil
          go_simp
          refine hK.out _ _ (held_hold (HX.out.alloc _) (blk_on G0X.out (bnew _ _))) (fun hHeld => ?_)
          clear hK K 
          refine wpAnyH_ready (rs := [11]) (by kernel_rfl) (by simp) ?_
          refine AllReadyH.cons rfl (fun K hK => ?_) AllReadyH.nil
          go_simp
          refine hK.out _ _ (held_hold (HX.out.alloc _) (blk_on G0X.out (bnew _ _))) (fun hHeld => ?_)
          clear hK K 
          refine wpAnyH_take (i := 12) (v := ?_) rfl (by kernel_rfl) (by kernel_rfl) (by kernel_rfl) (fun _ _ _ h => h) (Or.inl ⟨by rfl, ?_⟩) (by assumption) ?_
          rotate_left
          · intro w hSw
            go_simp
            try with_reducible rfl
          simp only [Act.put, List.getElem_toArray, List.getElem_cons_zero, List.getElem_cons_succ, List.setIfInBounds_toArray, List.set_cons_zero, List.set_cons_succ]
          refine wpAnyH_done (by kernel_rfl) ?_ _
          clear hHeld HX G0X H1 B1 G01 L1 CG
          generalize w9.alloc (.cells #[.string o.k, .int .i64 o.c, .int .i64 o.n, .string o.v, .bool o.d] 39) = X at *
          generalize w9.heap.size = ob at *
          obtain ⟨q0, q1, q2, q3, q4, -⟩ := penta G02.out
          obtain ⟨o0, o1, o2, o3, o4, -⟩ := penta GO.out
          have ht := HT.out
          go_wp2_with fail
          refine (CH.out _ H2.out L2.out).mono ?_
          rintro r w5 ⟨rfl, h5, k5⟩
          have H5 := aside h5
          have K5 := aside ((Keeps.of_below B2.out _).trans k5)
          clear h5 k5 q0 q1 q2 q3 q4 o0 o1 o2 o3 o4
          go_wp2
          go_ret2
          exact ⟨by rw [ht]; rfl, K5.out, .inr ⟨by rw [ht], H5.out⟩⟩
        · go_simp
          refine hK.out _ _ (held_hold (H1.out.alloc _).drew (show (w1.alloc (.cells #[.string ⟨#[]⟩, .int .i64 0, .int .i64 0, .string ⟨#[]⟩, .bool false] 39)).drew.heap[w.heap.size]? = some _ from blk_on G01.out (bnew _ _).drew)) (fun hHeld => ?_)
          clear hK K
          have HX := aside (H1.out.alloc (.cells #[.string ⟨#[]⟩, .int .i64 0, .int .i64 0, .string ⟨#[]⟩, .bool false] 39)).drew
          have GX := aside (show (w1.alloc (.cells #[.string ⟨#[]⟩, .int .i64 0, .int .i64 0, .string ⟨#[]⟩, .bool false] 39)).drew.heap[w1.heap.size]? = some (.cells #[.string ⟨#[]⟩, .int .i64 0, .int .i64 0, .string ⟨#[]⟩, .bool false] 39 (0, 0)) from heap_alloc_new w1 _)
          have BX := aside (bthen B1.out (bnew _ (.cells #[.string ⟨#[]⟩, .int .i64 0, .int .i64 0, .string ⟨#[]⟩, .bool false] 39))).drew
          have G0X := aside (show (w1.alloc (.cells #[.string ⟨#[]⟩, .int .i64 0, .int .i64 0, .string ⟨#[]⟩, .bool false] 39)).drew.heap[w.heap.size]? = some _ from blk_on G01.out (bnew _ _).drew)
          have LX := aside (L1.out.keep (bnew _ (.cells #[.string ⟨#[]⟩, .int .i64 0, .int .i64 0, .string ⟨#[]⟩, .bool false] 39))).drew
          have HV := aside (show w.heap.size < w1.heap.size from lt_of_blk G01.out)
          clear H1 B1 G01 L1
          generalize w1.heap.size = ob at *
          refine wpAnyH_ready (rs := [6]) (by kernel_rfl) (by simp) ?_
          refine AllReadyH.cons rfl (fun K hK => ?_) AllReadyH.nil
          go_simp
          refine (CG.out _ HX.out.tree).mono ?_
          rintro e w9 ⟨rfl, bb⟩
          refine hK.out _ _ (held_hold (HX.out.below bb) (blk_on G0X.out bb)) (fun hHeld => ?_)
          clear hK K 
          have HY := aside (HX.out.below bb)
          have GY := aside (blk_on GX.out bb)
          have BY := aside (BX.out.trans (bb.mono BX.out.size))
          have G0Y := aside (blk_on G0X.out bb)
          have LY := aside (LX.out.keep bb)
          clear bb
          refine wpAnyH_take (i := 7) (v := ?_) rfl (by kernel_rfl) (by kernel_rfl) (by kernel_rfl) (fun _ _ _ h => h) (Or.inl ⟨by rfl, ?_⟩) (by assumption) ?_
          rotate_left
          · intro w hSw
            go_simp
            try with_reducible rfl
          simp only [Act.put, List.getElem_toArray, List.getElem_cons_zero, List.getElem_cons_succ, List.setIfInBounds_toArray, List.set_cons_zero, List.set_cons_succ]
          refine wpAnyH_take (i := 8) (v := ?_) rfl (by kernel_rfl) (by kernel_rfl) (by kernel_rfl) (fun _ _ _ h => h) (Or.inl ⟨by rfl, ?_⟩) (by assumption) ?_
          rotate_left
          · intro w hSw
            go_simp
            try with_reducible rfl
          simp only [Act.put, List.getElem_toArray, List.getElem_cons_zero, List.getElem_cons_succ, List.setIfInBounds_toArray, List.set_cons_zero, List.set_cons_succ]
          refine wpAnyH_take (i := 9) (v := ?_) rfl (by kernel_rfl) (by kernel_rfl) (by kernel_rfl) (fun _ _ _ h => h) (Or.inl ⟨by rfl, ?_⟩) (by assumption) ?_
          rotate_left
          · intro w hSw
            go_simp
            try with_reducible rfl
          simp only [Act.put, List.getElem_toArray, List.getElem_cons_zero, List.getElem_cons_succ, List.setIfInBounds_toArray, List.set_cons_zero, List.set_cons_succ]
          obtain ⟨u0, u1, u2, u3, u4, z0, z1, z2, z3, z4⟩ := penta GY.out
          have E9 := aside (old_lay (o := o) HY.out BY.out LY.out G0Y.out GY.out HV.out)
          unfold setE at E9
          refine wpAnyH_ready (rs := [11]) (by kernel_rfl) (by simp) ?_
          refine AllReadyH.cons rfl (fun K hK => ?_) AllReadyH.nil
          go_simp
          refine hK.out _ _ (held_hold E9.out.1 E9.out.2.2.2.1) (fun hHeld => ?_)
          clear hK K 
          refine wpAnyH_take (i := 12) (v := ?_) rfl (by kernel_rfl) (by kernel_rfl) (by kernel_rfl) (fun _ _ _ h => h) (Or.inl ⟨by rfl, ?_⟩) (by assumption) ?_
          rotate_left
          · intro w hSw
            go_simp
            try with_reducible rfl
          simp only [Act.put, List.getElem_toArray, List.getElem_cons_zero, List.getElem_cons_succ, List.setIfInBounds_toArray, List.set_cons_zero, List.set_cons_succ]
          refine wpAnyH_done (by kernel_rfl) ?_ _
          clear hHeld u0 u1 u2 u3 u4 z0 z1 z2 z3 z4 HX GX BX G0X LX HY GY BY G0Y LY CG
          generalize ((((w9.setCell ⟨ob, 0, none⟩ (.string o.k)).setCell ⟨ob, 1, none⟩ (.int .i64 o.c)).setCell ⟨ob, 2, none⟩ (.int .i64 o.n)).setCell ⟨ob, 3, none⟩ (.string o.v)).setCell ⟨ob, 4, none⟩ (.bool o.d) = X at *
          obtain ⟨H2', B2', L2', G02', GO'⟩ := E9.out
          have H2 := aside H2'
          have B2 := aside B2'
          have L2 := aside L2'
          have G02 := aside G02'
          have GO := aside GO'
          clear H2' B2' L2' G02' GO' E9
          obtain ⟨q0, q1, q2, q3, q4, -⟩ := penta G02.out
          obtain ⟨o0, o1, o2, o3, o4, -⟩ := penta GO.out
          have ht := HT.out
          go_wp2_with fail
          refine (CH.out _ H2.out L2.out).mono ?_
          rintro r w5 ⟨rfl, h5, k5⟩
          have H5 := aside h5
          have K5 := aside ((Keeps.of_below B2.out _).trans k5)
          clear h5 k5 q0 q1 q2 q3 q4 o0 o1 o2 o3 o4
          go_wp2
          go_ret2
          exact ⟨by rw [ht]; rfl, K5.out, .inr ⟨by rw [ht], H5.out⟩⟩

      | some o =>
        obtain ⟨nw, hnw⟩ : ∃ nw, En.newer e o = nw := ⟨_, rfl⟩
        have HT := aside (show tkSay e Ls = (0, nw) from by unfold tkSay; rw [if_neg (by rw [hc]; decide), if_neg (by rw [h3]; decide), hL]; simp only [hnw])
        have CG := aside (fun (W : World) (h : TreeE W tb (jvE g) T) => yget_at (o := o) e.k h hH hl (by rw [hL]; rfl) (show (lookE e.k Ls).isSome = true from by rw [hL]; rfl))
        have CW := aside (fun (W : World) => newer_any e.k e.c e.n e.v e.d o.k o.c o.n o.v o.d nw W hnw)
        clear h L hH hl hc h3 hL hnw
        go_enter Tryd.func17, Tryd.ntmps17
        go_wp2_with fail
        refine (CK.out _).mono ?_
        rintro r w0 ⟨rfl, b0⟩
        have H0 := aside (H.out.below b0)
        have B0' := aside (bthen B0.out b0)
        have G00 := aside (blk_on G0.out b0)
        have L0 := aside (LL.out.keep b0)
        obtain ⟨p0, -⟩ := penta G00.out
        clear b0 q0 q1 q2 q3 q4
        go_wp2_with fail
        refine (CR.out _ H0.out).mono ?_
        rintro r w1 ⟨rfl, b1⟩
        have H1 := aside (H0.out.below b1)
        have B1 := aside (bthen B0'.out b1)
        have G01 := aside (blk_on G00.out b1)
        have L1 := aside (L0.out.keep b1)
        clear b1 p0 H0 B0' G00 L0 H B0 G0 LL CK CR
        go_wp2_with fail
        refine wp_region_held_drew (S := fun X => X.cell? ⟨sb, 3, none⟩ = some (.pointer (some ⟨tb, 0, none⟩)) ∧ X.cell? ⟨w.heap.size, 0, none⟩ = some (.string e.k) ∧ X.cell? ⟨w.heap.size, 1, none⟩ = some (.int .i64 e.c) ∧ X.cell? ⟨w.heap.size, 2, none⟩ = some (.int .i64 e.n) ∧ X.cell? ⟨w.heap.size, 3, none⟩ = some (.string e.v) ∧ X.cell? ⟨w.heap.size, 4, none⟩ = some (.bool e.d)) (by kernel_rfl) (held_hold H1.out.drew G01.out) (fun hHeld => ?_)
        refine wpAnyH_take (i := 0) (v := ?_) rfl (by kernel_rfl) (by kernel_rfl) (by kernel_rfl) (fun _ _ _ h => h) (Or.inl ⟨by rfl, ?_⟩) (by assumption) ?_
        rotate_left
        · intro w hSw
          go_simp
          try with_reducible rfl
        simp only [Act.put, List.getElem_toArray, List.getElem_cons_zero, List.setIfInBounds_toArray, List.set_cons_zero, List.set_cons_succ]
        refine wpAnyH_take (i := 1) (v := ?_) rfl (by kernel_rfl) (by kernel_rfl) (by kernel_rfl) (fun _ _ _ h => h) (Or.inl ⟨by rfl, ?_⟩) (by assumption) ?_
        rotate_left
        · intro w hSw
          go_simp
          try with_reducible rfl
        simp only [Act.put, List.getElem_toArray, List.getElem_cons_zero, List.getElem_cons_succ, List.setIfInBounds_toArray, List.set_cons_zero, List.set_cons_succ]
        refine wpAnyH_take (i := 2) (v := ?_) rfl (by kernel_rfl) (by kernel_rfl) (by kernel_rfl) (fun _ _ _ h => h) (Or.inl ⟨by rfl, ?_⟩) (by assumption) ?_
        rotate_left
        · intro w hSw
          go_simp
          try with_reducible rfl
        simp only [Act.put, List.getElem_toArray, List.getElem_cons_zero, List.getElem_cons_succ, List.setIfInBounds_toArray, List.set_cons_zero, List.set_cons_succ]
        refine wpAnyH_take (i := 3) (v := ?_) rfl (by kernel_rfl) (by kernel_rfl) (by kernel_rfl) (fun _ _ _ h => h) (Or.inl ⟨by rfl, ?_⟩) (by assumption) ?_
        rotate_left
        · intro w hSw
          go_simp
          try with_reducible rfl
        simp only [Act.put, List.getElem_toArray, List.getElem_cons_zero, List.getElem_cons_succ, List.setIfInBounds_toArray, List.set_cons_zero, List.set_cons_succ]
        refine wpAnyH_take (i := 4) (v := ?_) rfl (by kernel_rfl) (by kernel_rfl) (by kernel_rfl) (fun _ _ _ h => h) (Or.inl ⟨by rfl, ?_⟩) (by assumption) ?_
        rotate_left
        · intro w hSw
          go_simp
          try with_reducible rfl
        simp only [Act.put, List.getElem_toArray, List.getElem_cons_zero, List.getElem_cons_succ, List.setIfInBounds_toArray, List.set_cons_zero, List.set_cons_succ]
        refine wpAnyH_take (i := 5) (v := ?_) rfl (by kernel_rfl) (by kernel_rfl) (by kernel_rfl) (fun _ _ _ h => h) (Or.inl ⟨by rfl, ?_⟩) (by assumption) ?_
        rotate_left
        · intro w hSw
          go_simp
          try with_reducible rfl
        simp only [Act.put, List.getElem_toArray, List.getElem_cons_zero, List.getElem_cons_succ, List.setIfInBounds_toArray, List.set_cons_zero, List.set_cons_succ]
        refine wpAnyH_ready (rs := [6, 10]) (by kernel_rfl) (by simp) ?_
        refine AllReadyH.cons rfl (fun K hK => ?_) (AllReadyH.cons rfl (fun K hK => ?_) AllReadyH.nil)
        · go_simp
          refine (CG.out _ H1.out.drew.tree).mono ?_
          rintro r w9 ⟨rfl, bb⟩
          have HX := aside (H1.out.drew.below bb)
          have G0X := aside (blk_on (show w1.drew.heap[w.heap.size]? = some _ from G01.out) bb)
          refine hK.out _ _ (held_hold HX.out G0X.out) (fun hHeld => ?_)
          clear hK K
          have H2 := aside (HX.out.alloc (.cells #[.string o.k, .int .i64 o.c, .int .i64 o.n, .string o.v, .bool o.d] 39))
          have B2 := aside (bthen (bthen B1.out.drew bb) (bnew _ (.cells #[.string o.k, .int .i64 o.c, .int .i64 o.n, .string o.v, .bool o.d] 39)))
          have G02 := aside (blk_on G0X.out (bnew _ (.cells #[.string o.k, .int .i64 o.c, .int .i64 o.n, .string o.v, .bool o.d] 39)))
          have L2 := aside ((L1.out.drew.keep bb).keep (bnew _ (.cells #[.string o.k, .int .i64 o.c, .int .i64 o.n, .string o.v, .bool o.d] 39)))
          have GO := aside (heap_alloc_new w9 (.cells #[.string o.k, .int .i64 o.c, .int .i64 o.n, .string o.v, .bool o.d] 39))
          clear bb
          refine wpAnyH_take (i := 7) (v := ?_) rfl (by kernel_rfl) (by kernel_rfl) (by kernel_rfl) (fun _ _ _ h => h) (Or.inl ⟨by rfl, ?_⟩) (by assumption) ?_
          rotate_left
          · intro w hSw
            go_simp
            try with_reducible rfl
          simp only [Act.put, List.getElem_toArray, List.getElem_cons_zero, List.getElem_cons_succ, List.setIfInBounds_toArray, List.set_cons_zero, List.set_cons_succ]
          refine wpAnyH_take (i := 8) (v := ?_) rfl (by kernel_rfl) (by kernel_rfl) (by kernel_rfl) (fun _ _ _ h => h) (Or.inl ⟨by rfl, ?_⟩) (by assumption) ?_
          rotate_left
          · intro w hSw
            go_simp
            try with_reducible rfl
          simp only [Act.put, List.getElem_toArray, List.getElem_cons_zero, List.getElem_cons_succ, List.setIfInBounds_toArray, List.set_cons_zero, List.set_cons_succ]
          refine wpAnyH_take (i := 9) (v := ?_) rfl (by kernel_rfl) (by kernel_rfl) (by kernel_rfl) (fun _ _ _ h => h) (Or.inl ⟨by rfl, ?_⟩) (by assumption) ?_
          rotate_left
          · intro w hSw
            go_simp
            try with_reducible rfl
          simp only [Act.put, List.getElem_toArray, List.getElem_cons_zero, List.getElem_cons_succ, List.setIfInBounds_toArray, List.set_cons_zero, List.set_cons_succ]
          refine wpAnyH_ready (rs := [10]) (by kernel_rfl) (by simp) ?_
          refine AllReadyH.cons rfl (fun K hK => ?_) AllReadyH.nil
          go_simp
          refine hK.out _ _ (held_hold (HX.out.alloc _) (blk_on G0X.out (bnew _ _))) (fun hHeld => ?_)
          clear hK K 
          refine wpAnyH_ready (rs := [11]) (by kernel_rfl) (by simp) ?_
          refine AllReadyH.cons rfl (fun K hK => ?_) AllReadyH.nil
          go_simp
          refine hK.out _ _ (held_hold (HX.out.alloc _) (blk_on G0X.out (bnew _ _))) (fun hHeld => ?_)
          clear hK K 
          refine wpAnyH_take (i := 12) (v := ?_) rfl (by kernel_rfl) (by kernel_rfl) (by kernel_rfl) (fun _ _ _ h => h) (Or.inl ⟨by rfl, ?_⟩) (by assumption) ?_
          rotate_left
          · intro w hSw
            go_simp
            try with_reducible rfl
          simp only [Act.put, List.getElem_toArray, List.getElem_cons_zero, List.getElem_cons_succ, List.setIfInBounds_toArray, List.set_cons_zero, List.set_cons_succ]
          refine wpAnyH_done (by kernel_rfl) ?_ _
          clear hHeld HX G0X H1 B1 G01 L1 CG
          generalize w9.alloc (.cells #[.string o.k, .int .i64 o.c, .int .i64 o.n, .string o.v, .bool o.d] 39) = X at *
          generalize w9.heap.size = ob at *
          obtain ⟨q0, q1, q2, q3, q4, -⟩ := penta G02.out
          obtain ⟨o0, o1, o2, o3, o4, -⟩ := penta GO.out
          go_wp2_with fail
          refine (CW.out _).mono ?_
          rintro r w4 ⟨rfl, b4⟩
          have H4 := aside (H2.out.below b4)
          have B4 := aside (bthen B2.out b4)
          have L4 := aside (L2.out.keep b4)
          obtain ⟨p0, p1, p2, p3, p4, -⟩ := penta (blk_on G02.out b4)
          clear b4 q0 q1 q2 q3 q4 o0 o1 o2 o3 o4
          cases nw with
          | false =>
            have ht := HT.out
            go_wp2
            go_ret2
            exact ⟨by rw [ht]; rfl, Keeps.of_below B4.out _, .inl ⟨by rw [ht], H4.out⟩⟩
          | true =>
            have ht := HT.out
            go_wp2_with fail
            refine (CH.out _ H4.out L4.out).mono ?_
            rintro r w5 ⟨rfl, h5, k5⟩
            have H5 := aside h5
            have K5 := aside ((Keeps.of_below B4.out _).trans k5)
            clear h5 k5
            go_wp2
            go_ret2
            exact ⟨by rw [ht]; rfl, K5.out, .inr ⟨by rw [ht], H5.out⟩⟩
        · go_simp
          refine hK.out _ _ (held_hold (H1.out.alloc _).drew (show (w1.alloc (.cells #[.string ⟨#[]⟩, .int .i64 0, .int .i64 0, .string ⟨#[]⟩, .bool false] 39)).drew.heap[w.heap.size]? = some _ from blk_on G01.out (bnew _ _).drew)) (fun hHeld => ?_)
          clear hK K
          have HX := aside (H1.out.alloc (.cells #[.string ⟨#[]⟩, .int .i64 0, .int .i64 0, .string ⟨#[]⟩, .bool false] 39)).drew
          have GX := aside (show (w1.alloc (.cells #[.string ⟨#[]⟩, .int .i64 0, .int .i64 0, .string ⟨#[]⟩, .bool false] 39)).drew.heap[w1.heap.size]? = some (.cells #[.string ⟨#[]⟩, .int .i64 0, .int .i64 0, .string ⟨#[]⟩, .bool false] 39 (0, 0)) from heap_alloc_new w1 _)
          have BX := aside (bthen B1.out (bnew _ (.cells #[.string ⟨#[]⟩, .int .i64 0, .int .i64 0, .string ⟨#[]⟩, .bool false] 39))).drew
          have G0X := aside (show (w1.alloc (.cells #[.string ⟨#[]⟩, .int .i64 0, .int .i64 0, .string ⟨#[]⟩, .bool false] 39)).drew.heap[w.heap.size]? = some _ from blk_on G01.out (bnew _ _).drew)
          have LX := aside (L1.out.keep (bnew _ (.cells #[.string ⟨#[]⟩, .int .i64 0, .int .i64 0, .string ⟨#[]⟩, .bool false] 39))).drew
          have HV := aside (show w.heap.size < w1.heap.size from lt_of_blk G01.out)
          clear H1 B1 G01 L1
          generalize w1.heap.size = ob at *
          refine wpAnyH_ready (rs := [6]) (by kernel_rfl) (by simp) ?_
          refine AllReadyH.cons rfl (fun K hK => ?_) AllReadyH.nil
          go_simp
          refine (CG.out _ HX.out.tree).mono ?_
          rintro e w9 ⟨rfl, bb⟩
          refine hK.out _ _ (held_hold (HX.out.below bb) (blk_on G0X.out bb)) (fun hHeld => ?_)
          clear hK K 
          have HY := aside (HX.out.below bb)
          have GY := aside (blk_on GX.out bb)
          have BY := aside (BX.out.trans (bb.mono BX.out.size))
          have G0Y := aside (blk_on G0X.out bb)
          have LY := aside (LX.out.keep bb)
          clear bb
          refine wpAnyH_take (i := 7) (v := ?_) rfl (by kernel_rfl) (by kernel_rfl) (by kernel_rfl) (fun _ _ _ h => h) (Or.inl ⟨by rfl, ?_⟩) (by assumption) ?_
          rotate_left
          · intro w hSw
            go_simp
            try with_reducible rfl
          simp only [Act.put, List.getElem_toArray, List.getElem_cons_zero, List.getElem_cons_succ, List.setIfInBounds_toArray, List.set_cons_zero, List.set_cons_succ]
          refine wpAnyH_take (i := 8) (v := ?_) rfl (by kernel_rfl) (by kernel_rfl) (by kernel_rfl) (fun _ _ _ h => h) (Or.inl ⟨by rfl, ?_⟩) (by assumption) ?_
          rotate_left
          · intro w hSw
            go_simp
            try with_reducible rfl
          simp only [Act.put, List.getElem_toArray, List.getElem_cons_zero, List.getElem_cons_succ, List.setIfInBounds_toArray, List.set_cons_zero, List.set_cons_succ]
          refine wpAnyH_take (i := 9) (v := ?_) rfl (by kernel_rfl) (by kernel_rfl) (by kernel_rfl) (fun _ _ _ h => h) (Or.inl ⟨by rfl, ?_⟩) (by assumption) ?_
          rotate_left
          · intro w hSw
            go_simp
            try with_reducible rfl
          simp only [Act.put, List.getElem_toArray, List.getElem_cons_zero, List.getElem_cons_succ, List.setIfInBounds_toArray, List.set_cons_zero, List.set_cons_succ]
          obtain ⟨u0, u1, u2, u3, u4, z0, z1, z2, z3, z4⟩ := penta GY.out
          have E9 := aside (old_lay (o := o) HY.out BY.out LY.out G0Y.out GY.out HV.out)
          unfold setE at E9
          refine wpAnyH_ready (rs := [11]) (by kernel_rfl) (by simp) ?_
          refine AllReadyH.cons rfl (fun K hK => ?_) AllReadyH.nil
          go_simp
          refine hK.out _ _ (held_hold E9.out.1 E9.out.2.2.2.1) (fun hHeld => ?_)
          clear hK K 
          refine wpAnyH_take (i := 12) (v := ?_) rfl (by kernel_rfl) (by kernel_rfl) (by kernel_rfl) (fun _ _ _ h => h) (Or.inl ⟨by rfl, ?_⟩) (by assumption) ?_
          rotate_left
          · intro w hSw
            go_simp
            try with_reducible rfl
          simp only [Act.put, List.getElem_toArray, List.getElem_cons_zero, List.getElem_cons_succ, List.setIfInBounds_toArray, List.set_cons_zero, List.set_cons_succ]
          refine wpAnyH_done (by kernel_rfl) ?_ _
          clear hHeld u0 u1 u2 u3 u4 z0 z1 z2 z3 z4 HX GX BX G0X LX HY GY BY G0Y LY CG
          generalize ((((w9.setCell ⟨ob, 0, none⟩ (.string o.k)).setCell ⟨ob, 1, none⟩ (.int .i64 o.c)).setCell ⟨ob, 2, none⟩ (.int .i64 o.n)).setCell ⟨ob, 3, none⟩ (.string o.v)).setCell ⟨ob, 4, none⟩ (.bool o.d) = X at *
          obtain ⟨H2', B2', L2', G02', GO'⟩ := E9.out
          have H2 := aside H2'
          have B2 := aside B2'
          have L2 := aside L2'
          have G02 := aside G02'
          have GO := aside GO'
          clear H2' B2' L2' G02' GO' E9
          obtain ⟨q0, q1, q2, q3, q4, -⟩ := penta G02.out
          obtain ⟨o0, o1, o2, o3, o4, -⟩ := penta GO.out
          go_wp2_with fail
          refine (CW.out _).mono ?_
          rintro r w4 ⟨rfl, b4⟩
          have H4 := aside (H2.out.below b4)
          have B4 := aside (bthen B2.out b4)
          have L4 := aside (L2.out.keep b4)
          obtain ⟨p0, p1, p2, p3, p4, -⟩ := penta (blk_on G02.out b4)
          clear b4 q0 q1 q2 q3 q4 o0 o1 o2 o3 o4
          cases nw with
          | false =>
            have ht := HT.out
            go_wp2
            go_ret2
            exact ⟨by rw [ht]; rfl, Keeps.of_below B4.out _, .inl ⟨by rw [ht], H4.out⟩⟩
          | true =>
            have ht := HT.out
            go_wp2_with fail
            refine (CH.out _ H4.out L4.out).mono ?_
            rintro r w5 ⟨rfl, h5, k5⟩
            have H5 := aside h5
            have K5 := aside ((Keeps.of_below B4.out _).trans k5)
            clear h5 k5
            go_wp2
            go_ret2
            exact ⟨by rw [ht]; rfl, K5.out, .inr ⟨by rw [ht], H5.out⟩⟩

  · have ht : tkSay e Ls = (c, false) := by unfold tkSay; rw [if_pos (by rw [hc]; exact h0), hc]
    have h0' : (c == 0) = false := beq_eq_false_iff_ne.2 h0
    have HT := aside ht
    clear h L hH hl hc h0 ht
    go_enter Tryd.func17, Tryd.ntmps17
    go_wp2_with fail
    refine (CK.out _).mono ?_
    rintro r w1 ⟨rfl, b1⟩
    have H1 := aside (H.out.below b1)
    have B1 := aside (bthen B0.out b1)
    clear b1 q0 q1 q2 q3 q4
    have ht := HT.out
    go_wp2
    go_ret2
    exact ⟨by rw [ht]; rfl, Keeps.of_below B1.out _, .inl ⟨by rw [ht], H1.out⟩⟩

end Go.Proofs.YtlgcdcjhflihiaaDoor
namespace Go.Proofs.YtlgcdcjhflihiaaDoor
open Go.RowKit
set_option linter.unusedVariables false

set_option maxHeartbeats 3200000 in
set_option maxRecDepth 100000 in
theorem sloadNil (nd : Int) (w : World) : Calls Tryd.prog 31 #[.int .i64 nd, .int .i64 0, .slice none 0 0] w fun e w' => Below w.heap.size w w' ∧
      ((nodeB nd = false ∧ e = .returned (.tuple #[.pointer none, .int .i64 1])) ∨ (nodeB nd = true ∧ ∃ sb g tb, e = .returned (.tuple #[.pointer (some ⟨sb, 0, none⟩), .int .i64 0]) ∧ IsSt w' sb g tb nd 0 .nil 0 ∧ w.heap.size ≤ sb ∧ w.heap.size ≤ g ∧ w.heap.size ≤ tb)) := by
  by_cases h1 : nd < 0
  · have HB := aside (node_no1 h1)
    go_enter Tryd.func31, Tryd.ntmps31
    go_wp2
    go_ret2
    exact ⟨Below.refl _ _, .inl ⟨HB.out, rfl⟩⟩
  · by_cases h2 : 8 ≤ nd
    · have HB := aside (node_no2 h2)
      go_enter Tryd.func31, Tryd.ntmps31
      go_wp2
      go_ret2
      exact ⟨Below.refl _ _, .inl ⟨HB.out, rfl⟩⟩
    · have HB := aside (node_yes h1 h2)
      have C := aside (sempty nd 0 w)
      go_enter Tryd.func31, Tryd.ntmps31
      go_wp2_with fail
      refine C.out.mono ?_
      rintro e w1 ⟨sb, g, tb, rfl, hs, b1, l1, l2, l3⟩
      have HS := aside hs
      have B1 := aside b1
      have HL := aside (show w.heap.size ≤ sb ∧ w.heap.size ≤ g ∧ w.heap.size ≤ tb from ⟨l1, l2, l3⟩)
      clear hs b1 l1 l2 l3 C
      go_wp2
      go_loopw [36] (fun i wr => i = .int .i64 0 ∧ wr = w1) (fun _ _ => 0)
      case atStart => exact ⟨rfl, rfl⟩
      case round =>
        obtain ⟨rfl, rfl⟩ := hrel
        go_wp2
        go_ret2
        exact ⟨B1.out, .inr ⟨HB.out, sb, g, tb, rfl, HS.out, HL.out⟩⟩

set_option maxHeartbeats 3200000 in
set_option maxRecDepth 100000 in
theorem snew (nd : Int) (w : World) : Calls Tryd.prog 9 #[.int .i64 nd] w fun e w' => Below w.heap.size w w' ∧
      ((nodeB nd = false ∧ e = .returned (.tuple #[.pointer none, .int .i64 1])) ∨ (nodeB nd = true ∧ ∃ sb g tb, e = .returned (.tuple #[.pointer (some ⟨sb, 0, none⟩), .int .i64 0]) ∧ IsSt w' sb g tb nd 0 .nil 0 ∧ w.heap.size ≤ sb ∧ w.heap.size ≤ g ∧ w.heap.size ≤ tb)) := by
  have C := aside (sloadNil nd w)
  go_enter Tryd.func9, Tryd.ntmps9
  go_wp2_with fail
  refine C.out.mono ?_
  rintro e w1 ⟨b1, ⟨hn, rfl⟩ | ⟨hn, sb, g, tb, rfl, hs, hl⟩⟩
  · have HB := aside hn
    have B1 := aside b1
    clear hn b1 C
    go_wp2
    go_ret2
    exact ⟨B1.out, .inl ⟨HB.out, rfl⟩⟩
  · have HB := aside hn
    have B1 := aside b1
    have HS := aside hs
    have HL := aside hl
    clear hn b1 C hs hl
    go_wp2
    go_ret2
    exact ⟨B1.out, .inr ⟨HB.out, sb, g, tb, rfl, HS.out, HL.out⟩⟩

end Go.Proofs.YtlgcdcjhflihiaaDoor
namespace Go.Proofs.YtlgcdcjhflihiaaDoor
open Go.RowKit
set_option linter.unusedVariables false

/-- The store in the block sb holds Ls. -/
def Sto (w : World) (sb g tb : Nat) (nd ck : Int) (Ls : List En) : Prop := ∃ T n, IsSt w sb g tb nd ck T n ∧ Hol T Ls

theorem Sto.below {w w' : World} {sb g tb : Nat} {nd ck : Int} {Ls : List En} (h : Sto w sb g tb nd ck Ls) (b : Below w.heap.size w w') : Sto w' sb g tb nd ck Ls := by
  obtain ⟨T, n, h1, h2⟩ := h
  exact ⟨T, n, h1.below b, h2⟩
theorem Sto.keeps {w w' : World} {sb g tb : Nat} {nd ck : Int} {Ls : List En} (h : Sto w sb g tb nd ck Ls) (L : Lanes w) (k : Keeps (Of sb g tb) w w') : Lanes w' := by
  obtain ⟨T, n, h1, h2⟩ := h
  exact L.keeps k (L.apart h1)
theorem Sto.rises {w : World} {sb g tb : Nat} {nd ck : Int} {Ls : List En} (h : Sto w sb g tb nd ck Ls) : RisesE Ls := by
  obtain ⟨T, n, h1, h2⟩ := h
  exact h2.rises
theorem Sto.not {w : World} {sb g tb : Nat} {nd ck : Int} {Ls : List En} (h : Sto w sb g tb nd ck Ls) {i : Nat} {cs : Array Value} {U : TypeId} (hi : w.heap[i]? = some (.cells cs U (0, 0))) (h1 : U ≠ 82) (h2 : U ≠ 111) (h3 : U ≠ 149) : ¬ Of sb g tb i := by
  obtain ⟨T, n, h4, h5⟩ := h
  exact h4.not hi h1 h2 h3
theorem Sto.lt {w : World} {sb g tb : Nat} {nd ck : Int} {Ls : List En} (h : Sto w sb g tb nd ck Ls) : sb < w.heap.size ∧ g < w.heap.size ∧ tb < w.heap.size := by
  obtain ⟨T, n, h1, h2⟩ := h
  exact h1.lt
theorem Sto.keep {w w' : World} {sb g tb sb' g' tb' : Nat} {nd ck nd' ck' : Int} {Ls Ls' : List En} (h : Sto w sb g tb nd ck Ls) (h' : Sto w sb' g' tb' nd' ck' Ls') (k : Keeps (Of sb' g' tb') w w') (a1 : sb ≠ sb') (a2 : g ≠ g') (a3 : tb ≠ tb') : Sto w' sb g tb nd ck Ls := by
  obtain ⟨T, n, h1, h2⟩ := h
  obtain ⟨T', n', h1', h2'⟩ := h'
  exact ⟨T, n, h1.keep h1' k a1 a2 a3, h2⟩

theorem qlen {w : World} {sb g tb : Nat} {nd ck : Int} {Ls : List En} (h : Sto w sb g tb nd ck Ls) : Calls Tryd.prog 12 #[.pointer (some ⟨sb, 0, none⟩)] w fun e w' => e = .returned (.int .i64 (Ls.length : Int)) ∧ w' = w := by
  obtain ⟨T, n, h1, h2⟩ := h
  have e1 : (T.cnt : Int) = (Ls.length : Int) := by rw [h2.cnt]
  rw [← e1]
  exact slen h1

theorem qclock {w : World} {sb g tb : Nat} {nd ck : Int} {Ls : List En} (h : Sto w sb g tb nd ck Ls) : Calls Tryd.prog 11 #[.pointer (some ⟨sb, 0, none⟩)] w fun e w' => e = .returned (.int .i64 ck) ∧ w' = w := by
  obtain ⟨T, n, h1, h2⟩ := h
  exact sclock h1

theorem qnode {w : World} {sb g tb : Nat} {nd ck : Int} {Ls : List En} (h : Sto w sb g tb nd ck Ls) : Calls Tryd.prog 10 #[.pointer (some ⟨sb, 0, none⟩)] w fun e w' => e = .returned (.int .i64 nd) ∧ w' = w := by
  obtain ⟨T, n, h1, h2⟩ := h
  exact snode h1

theorem qnew (nd : Int) (w : World) : Calls Tryd.prog 9 #[.int .i64 nd] w fun e w' => Below w.heap.size w w' ∧
      ((nodeB nd = false ∧ e = .returned (.tuple #[.pointer none, .int .i64 1])) ∨ (nodeB nd = true ∧ ∃ sb g tb, e = .returned (.tuple #[.pointer (some ⟨sb, 0, none⟩), .int .i64 0]) ∧ Sto w' sb g tb nd 0 [] ∧ w.heap.size ≤ sb ∧ w.heap.size ≤ g ∧ w.heap.size ≤ tb)) :=
  (snew nd w).mono fun e w' ⟨h1, h2⟩ => ⟨h1, h2.imp id (fun ⟨h3, sb, g, tb, h4, h5, h6⟩ => ⟨h3, sb, g, tb, h4, ⟨_, _, h5, Hol.nil⟩, h6⟩)⟩

theorem qput (k v : ByteArray) {w : World} {sb g tb : Nat} {nd ck : Int} {Ls : List En} (h : Sto w sb g tb nd ck Ls) (L : Lanes w) (hl : Ls.length ≤ 1000000) :
    Calls Tryd.prog 15 #[.pointer (some ⟨sb, 0, none⟩), .string k, .string v] w fun r w' => ∃ c m er, r = .returned (.tuple #[.agg #[.int .i64 c, .int .i64 m], .int .i64 er]) ∧ er = wrErr k v nd ck Ls ∧ Keeps (Of sb g tb) w w' ∧ Lanes w' ∧
      ((er ≠ 0 ∧ c = 0 ∧ m = 0 ∧ Sto w' sb g tb nd ck Ls) ∨ (er = 0 ∧ c = ck + 1 ∧ m = nd ∧ Sto w' sb g tb nd (ck + 1) (insE (wrEn k v false nd ck) Ls))) := by
  obtain ⟨T, n, h1, h2⟩ := h
  refine (sput k v h1 L h2 hl).mono fun r w' ⟨c, m, er, e1, e2, e3, e4⟩ => ⟨c, m, er, e1, e2, e3, L.keeps e3 (L.apart h1), e4.imp (fun ⟨a, b, d, i⟩ => ⟨a, b, d, _, _, i, h2⟩) (fun ⟨a, b, d, i⟩ => ⟨a, b, d, _, _, i, h2.put (wrEn k v false nd ck)⟩)⟩

theorem qdel (k : ByteArray) {w : World} {sb g tb : Nat} {nd ck : Int} {Ls : List En} (h : Sto w sb g tb nd ck Ls) (L : Lanes w) (hl : Ls.length ≤ 1000000) :
    Calls Tryd.prog 16 #[.pointer (some ⟨sb, 0, none⟩), .string k] w fun r w' => ∃ c m er, r = .returned (.tuple #[.agg #[.int .i64 c, .int .i64 m], .int .i64 er]) ∧ er = wrErr k ⟨#[]⟩ nd ck Ls ∧ Keeps (Of sb g tb) w w' ∧ Lanes w' ∧
      ((er ≠ 0 ∧ c = 0 ∧ m = 0 ∧ Sto w' sb g tb nd ck Ls) ∨ (er = 0 ∧ c = ck + 1 ∧ m = nd ∧ Sto w' sb g tb nd (ck + 1) (insE (wrEn k ⟨#[]⟩ true nd ck) Ls))) := by
  obtain ⟨T, n, h1, h2⟩ := h
  refine (sdel k h1 L h2 hl).mono fun r w' ⟨c, m, er, e1, e2, e3, e4⟩ => ⟨c, m, er, e1, e2, e3, L.keeps e3 (L.apart h1), e4.imp (fun ⟨a, b, d, i⟩ => ⟨a, b, d, _, _, i, h2⟩) (fun ⟨a, b, d, i⟩ => ⟨a, b, d, _, _, i, h2.put (wrEn k ⟨#[]⟩ true nd ck)⟩)⟩

theorem qtake (e : En) {w : World} {sb g tb : Nat} {nd ck : Int} {Ls : List En} (h : Sto w sb g tb nd ck Ls) (L : Lanes w) (hl : Ls.length ≤ 1000000) :
    Calls Tryd.prog 17 #[.pointer (some ⟨sb, 0, none⟩), .agg #[.string e.k, .int .i64 e.c, .int .i64 e.n, .string e.v, .bool e.d]] w fun r w' => r = .returned (.tuple #[.bool (tkSay e Ls).2, .int .i64 (tkSay e Ls).1]) ∧ Keeps (Of sb g tb) w w' ∧ Lanes w' ∧
      (((tkSay e Ls).2 = false ∧ Sto w' sb g tb nd ck Ls) ∨ ((tkSay e Ls).2 = true ∧ Sto w' sb g tb nd (ckm ck e.c) (insE e Ls))) := by
  obtain ⟨T, n, h1, h2⟩ := h
  refine (stake e h1 L h2 hl).mono fun r w' ⟨e1, e3, e4⟩ => ⟨e1, e3, L.keeps e3 (L.apart h1), e4.imp (fun ⟨a, i⟩ => ⟨a, _, _, i, h2⟩) (fun ⟨a, i⟩ => ⟨a, _, _, i, h2.put e⟩)⟩

theorem qget (k : ByteArray) {w : World} {sb g tb : Nat} {nd ck : Int} {Ls : List En} (h : Sto w sb g tb nd ck Ls) (hl : Ls.length ≤ 1000000) :
    Calls Tryd.prog 21 #[.pointer (some ⟨sb, 0, none⟩), .string k] w fun r w' => r = .returned (if (16 : Int) < k.size then .tuple #[.agg #[.string ⟨#[]⟩, .int .i64 0, .int .i64 0, .string ⟨#[]⟩, .bool false], .bool false, .int .i64 20] else .tuple #[.agg #[.string ((lookE k Ls).getD eNone).k, .int .i64 ((lookE k Ls).getD eNone).c, .int .i64 ((lookE k Ls).getD eNone).n, .string ((lookE k Ls).getD eNone).v, .bool ((lookE k Ls).getD eNone).d], .bool (lookE k Ls).isSome, .int .i64 0]) ∧ Below w.heap.size w w' := by
  obtain ⟨T, n, h1, h2⟩ := h
  exact sget k h1 h2 hl

theorem qfold (lo hi : ByteArray) (op : Bool) {w : World} {sb g tb : Nat} {nd ck : Int} {Ls : List En} (h : Sto w sb g tb nd ck Ls) (L : Lanes w) (hl : Ls.length ≤ 1000000) :
    Calls Tryd.prog 24 #[.pointer (some ⟨sb, 0, none⟩), .agg #[.string lo, .string hi, .bool op]] w fun r w' => r = .returned (.tuple #[.agg #[.int .i64 (foldV lo hi op Ls).n, .int .u64 (foldV lo hi op Ls).a, .int .u64 (foldV lo hi op Ls).b], .int .i64 (Rg.chk ⟨lo, hi, op⟩)]) ∧ Sto w' sb g tb nd ck Ls ∧ Keeps (Of sb g tb) w w' ∧ Lanes w' := by
  obtain ⟨T, n, h1, h2⟩ := h
  exact (sfold lo hi op h1 h2 hl).mono fun r w' ⟨e1, ⟨d, e2, e3⟩, e4⟩ => ⟨e1, ⟨_, _, e3, h2⟩, e4, L.keeps e4 (L.apart h1)⟩

end Go.Proofs.YtlgcdcjhflihiaaDoor
namespace Go.Proofs.YtlgcdcjhflihiaaDoor
open Go.RowKit
set_option linter.unusedVariables false
/-- A list of entries in memory, with keys of a size that memory has. -/
def EntsIn (w : World) (a : Option Addr) (len cap : Nat) (T : Nat → En) : Prop :=
  len ≤ cap ∧ cap ≤ maxLen ∧ (len = 0 ∨ ∃ b off, a = some ⟨b, off, none⟩ ∧ b < w.heap.size ∧ ∀ i, i < len →
    (w.cell? ⟨b, off + i * 5, none⟩ = some (.string (T i).k) ∧ w.cell? ⟨b, off + i * 5 + 1, none⟩ = some (.int .i64 (T i).c) ∧ w.cell? ⟨b, off + i * 5 + 2, none⟩ = some (.int .i64 (T i).n) ∧ w.cell? ⟨b, off + i * 5 + 3, none⟩ = some (.string (T i).v) ∧ w.cell? ⟨b, off + i * 5 + 4, none⟩ = some (.bool (T i).d)) ∧ (T i).k.size ≤ 140737488351232)

theorem EntsIn.keep {w w' : World} {a : Option Addr} {len cap : Nat} {T : Nat → En} (h : EntsIn w a len cap T) (b : Below w.heap.size w w') : EntsIn w' a len cap T := by
  obtain ⟨h1, h2, h3⟩ := h
  refine ⟨h1, h2, ?_⟩
  rcases h3 with h3 | ⟨bb, off, rfl, hb, hc⟩
  · exact .inl h3
  · refine .inr ⟨bb, off, rfl, by have := b.size; omega, fun i hi => ?_⟩
    obtain ⟨⟨c0, c1, c2, c3, c4⟩, hk⟩ := hc i hi
    exact ⟨⟨cell_in c0 b, cell_in c1 b, cell_in c2 b, cell_in c3 b, cell_in c4 b⟩, hk⟩

/-- The five cells of an entry's block. -/
theorem quint {w : World} {i : Nat} {a b c d e : Value} {T : TypeId} (h : w.heap[i]? = some (.cells #[a, b, c, d, e] T (0, 0))) :
    w.cell? ⟨i, 0, none⟩ = some a ∧ w.cell? ⟨i, 1, none⟩ = some b ∧ w.cell? ⟨i, 2, none⟩ = some c ∧ w.cell? ⟨i, 3, none⟩ = some d ∧ w.cell? ⟨i, 4, none⟩ = some e :=
  ⟨by simp [World.cell?, h], by simp [World.cell?, h], by simp [World.cell?, h], by simp [World.cell?, h], by simp [World.cell?, h]⟩

end Go.Proofs.YtlgcdcjhflihiaaDoor
namespace Go.Proofs.YtlgcdcjhflihiaaDoor
open Go.RowKit
set_option linter.unusedVariables false
def entVals (e : En) : List Value := [.string e.k, .int .i64 e.c, .int .i64 e.n, .string e.v, .bool e.d]

def entCells : List En → List Value
  | [] => []
  | e :: r => entVals e ++ entCells r

theorem entCells_length : ∀ l : List En, (entCells l).length = l.length * 5
  | [] => rfl
  | e :: r => by simp only [entCells, List.length_append, entCells_length r, List.length_cons, entVals]; simp; omega

theorem entCells_append : ∀ l m : List En, entCells (l ++ m) = entCells l ++ entCells m
  | [], _ => rfl
  | e :: r, m => by simp [entCells, entCells_append r m]

theorem entCells_at : ∀ (l : List En) (i r : Nat) (e : En), l[i]? = some e → r < 5 → (entCells l)[i * 5 + r]? = (entVals e)[r]?
  | [], i, r, e, h, _ => by simp at h
  | x :: t, 0, r, e, h, hr => by
    simp at h; subst h
    simp only [entCells]
    rw [List.getElem?_append_left (by simp [entVals]; omega)]
    simp
  | x :: t, i + 1, r, e, h, hr => by
    simp only [entCells]
    rw [List.getElem?_append_right (by simp [entVals]; omega)]
    have := entCells_at t i r e (by simpa using h) hr
    rw [← this]
    congr 1
    simp [entVals]
    omega

theorem entCells_one (l : List En) : ∀ u ∈ entCells l, u.oneCell' = true := by
  induction l with
  | nil => intro u hu; simp [entCells] at hu
  | cons e r ih =>
    intro u hu
    simp only [entCells, List.mem_append] at hu
    rcases hu with hu | hu
    · simp [entVals] at hu
      rcases hu with rfl | rfl | rfl | rfl | rfl <;> rfl
    · exact ih u hu

theorem infoEnt : (Tryd.prog.info? 39).map (fun i => (i.zero, i.size, i.bytes)) = some (some (.agg #[.string ⟨#[]⟩, .int .i64 0, .int .i64 0, .string ⟨#[]⟩, .bool false]), 5, 56) := by kernel_rfl

def nthE (l : List En) (i : Nat) : En := l.getD i ⟨⟨#[]⟩, 0, 0, ⟨#[]⟩, false⟩

theorem nthE_get {l : List En} {i : Nat} (h : i < l.length) : l[i]? = some (nthE l i) := by
  unfold nthE; rw [List.getD, List.getElem?_eq_getElem h]; rfl

def KeysOk (l : List En) : Prop := ∀ e ∈ l, e.k.size ≤ 140737488351232

/-- The cells of a part of an owned row. -/
theorem row_cells {w : World} {B g cap n : Nat} {l : List En} (h : w.ownsRow B 39 5 (.slice (some ⟨g, 0, none⟩) n cap) n (entCells l)) {i : Nat} (hi : i < l.length) :
    w.cell? ⟨g, i * 5, none⟩ = some (.string (nthE l i).k) ∧ w.cell? ⟨g, i * 5 + 1, none⟩ = some (.int .i64 (nthE l i).c) ∧ w.cell? ⟨g, i * 5 + 2, none⟩ = some (.int .i64 (nthE l i).n) ∧ w.cell? ⟨g, i * 5 + 3, none⟩ = some (.string (nthE l i).v) ∧ w.cell? ⟨g, i * 5 + 4, none⟩ = some (.bool (nthE l i).d) := by
  have hn : l.length = n := by have := h.1; rw [entCells_length] at this; omega
  have e := nthE_get hi
  have c : ∀ r, r < 5 → w.cell? ⟨g, i * 5 + r, none⟩ = (entVals (nthE l i))[r]? := fun r hr => by
    rw [h.cellAt (i * 5 + r) (by omega), entCells_at l i r _ e hr]
  exact ⟨by simpa [entVals] using c 0 (by omega), by simpa [entVals] using c 1 (by omega), by simpa [entVals] using c 2 (by omega), by simpa [entVals] using c 3 (by omega), by simpa [entVals] using c 4 (by omega)⟩

theorem row_max {w : World} {B g cap n : Nat} {xs : List Value} {e s : Nat} (h : w.ownsRow B e s (.slice (some ⟨g, 0, none⟩) n cap) n xs) : n ≤ cap ∧ cap ≤ maxLen := by
  rcases h.2 with ⟨h, _⟩ | ⟨g', cap', cur, h1, h2, h3, h4, h5, h6⟩
  · cases h
  · injection h1 with e1 e2 e3
    omega

/-- A part of an owned row as a list of entries in memory: m entries from entry o on. -/
theorem ents_of_row {w : World} {B g cap n : Nat} {l : List En} (h : w.ownsRow B 39 5 (.slice (some ⟨g, 0, none⟩) n cap) n (entCells l)) (hk : KeysOk l) {o m c : Nat} (hm : o + m ≤ n) (hc : m ≤ c) (hx : c ≤ maxLen) {a : Option Addr} (ha : m = 0 ∨ a = some ⟨g, o * 5, none⟩) :
    EntsIn w a m c (fun i => nthE l (o + i)) := by
  have hn : l.length = n := by have := h.1; rw [entCells_length] at this; omega
  refine ⟨hc, hx, ?_⟩
  rcases ha with ha | rfl
  · exact .inl ha
  · refine .inr ⟨g, o * 5, rfl, (h.lt g rfl).2, fun i hi => ⟨?_, hk _ ?_⟩⟩
    · have := row_cells h (i := o + i) (by omega)
      rw [show (o + i) * 5 = o * 5 + i * 5 from by omega] at this
      exact this
    · have := nthE_get (l := l) (i := o + i) (by omega)
      exact List.mem_of_getElem? this

/-- The cells of a list of entries that came in. -/
theorem ents_cells {w : World} {y : Addr} {len cap : Nat} {T : Nat → En} (h : EntsIn w (some y) len cap T) : ∀ j u, (entCells ((List.range len).map T))[j]? = some u → w.cell? (y.add j) = some u := by
  intro j u hj
  have hjl : j < len * 5 := by
    have := (List.getElem?_eq_some_iff.1 hj).1
    rw [entCells_length] at this
    simpa using this
  rcases h.2.2 with h0 | ⟨b, off, hy, hb, hc⟩
  · omega
  · injection hy with hy
    subst hy
    obtain ⟨⟨c0, c1, c2, c3, c4⟩, -⟩ := hc (j / 5) (by omega)
    have hat := entCells_at ((List.range len).map T) (j / 5) (j % 5) (T (j / 5)) (by rw [List.getElem?_map, List.getElem?_range (by omega)]; rfl) (by omega)
    rw [show j / 5 * 5 + j % 5 = j from by omega] at hat
    rw [hat] at hj
    rw [Addr.add_lit, show off + j = off + j / 5 * 5 + j % 5 from by omega]
    have hr : j % 5 < 5 := by omega
    generalize j % 5 = r at *
    match r, hr with
    | 0, _ => simp [entVals] at hj; subst hj; exact c0
    | 1, _ => simp [entVals] at hj; subst hj; exact c1
    | 2, _ => simp [entVals] at hj; subst hj; exact c2
    | 3, _ => simp [entVals] at hj; subst hj; exact c3
    | 4, _ => simp [entVals] at hj; subst hj; exact c4

/-- A copy of entries by append onto nothing, as one operation. -/
theorem op_append_copy {w : World} {o : Oper} {act : Act} {K : Act → World → Prop} {Q : Exit → Act → World → Prop} (s x : Operand)
    (ho : o.op = .call { callee := .builtin .append, args := #[s, x], argTypes := #[31, 31] })
    (hs : act.eval s = .slice none 0 0) (a : Option Addr) (len cap : Nat) (T : Nat → En) (hx : act.eval x = .slice a len cap) (hL : EntsIn w a len cap T)
    (hform : (a = none ∧ len = 0 ∧ cap = 0) ∨ ∃ y, a = some y) (hlen : len * 56 ≤ 140737488351232)
    (h : ∀ v' w', w'.ownsRow w.heap.size 39 5 v' len (entCells ((List.range len).map T)) → Below w.heap.size w w' → K (act.put o.dst v') w') : o.wp Tryd.prog act w K Q := by
  obtain ⟨i0, hi, hz0, hz1, hz2⟩ := info_parts infoEnt
  have hnil : w.ownsRow w.heap.size 39 5 (.slice none 0 0) 0 [] := World.ownsRow_nil _ _ _ _
  rcases hform with ⟨rfl, rfl, rfl⟩ | ⟨y, rfl⟩
  · have hrun := run_append_owned_none (P := Tryd.prog) (w := w) w.heap.size 31 o.type 39 i0 5 Tryd.underlying31 hi _ _ _ hnil
    unfold Oper.wp
    simp [execOp, ho, resolve, invoke, builtin, hs, hx, hrun, Result.andThen]
    exact h _ w hnil (Below.refl _ _)
  · refine wp_append_own w s x _ ho w.heap.size 39 i0 _ 5 56 Tryd.underlying31 hi hz0 hz1 hz2 rfl (by decide) _ _ _ hs hnil y len cap (entCells ((List.range len).map T)) hx (by rw [entCells_length]; simp) (ents_cells hL) (entCells_one _) (by unfold maxLen; omega) (by omega) (Nat.le_refl _) ?_
    intro v' w' ho' hg _
    have hbel : Below w.heap.size w w' := (Below.refl _ w).grown hg (Nat.le_refl _) (fun k e => by cases e)
    simp only [Nat.zero_add, List.nil_append] at ho'
    exact h v' w' ho' hbel

/-- One entry appended to an owned row, as one operation. -/
theorem op_append_ent {w : World} {o : Oper} {act : Act} {K : Act → World → Prop} {Q : Exit → Act → World → Prop} (s x : Operand)
    (ho : o.op = .call { callee := .builtin .append, args := #[s, x], argTypes := #[31, 31] })
    (B n : Nat) (v : Value) (l : List En) (hs : act.eval s = v) (hown : w.ownsRow B 39 5 v n (entCells l)) (b c : Nat) (e : En) (hx : act.eval x = .slice (some ⟨b, 0, none⟩) 1 c)
    (hb : w.heap[b]? = some (.cells #[.string e.k, .int .i64 e.c, .int .i64 e.n, .string e.v, .bool e.d] 39 (0, 0))) (hlen : n * 56 ≤ 140737488351232) (hB : B ≤ w.heap.size)
    (h : ∀ g cap w', w'.ownsRow B 39 5 (.slice (some ⟨g, 0, none⟩) (n + 1) cap) (n + 1) (entCells (l ++ [e])) → w.grownBy w' v.ownBlock → K (act.put o.dst (.slice (some ⟨g, 0, none⟩) (n + 1) cap)) w') : o.wp Tryd.prog act w K Q := by
  obtain ⟨i0, hi, hz0, hz1, hz2⟩ := info_parts infoEnt
  refine wp_append_own w s x _ ho B 39 i0 _ 5 56 Tryd.underlying31 hi hz0 hz1 hz2 rfl (by decide) _ _ _ hs hown ⟨b, 0, none⟩ 1 c (entVals e) hx rfl ?_ (fun u hu => entCells_one [e] u (by simpa [entCells] using hu)) (by unfold maxLen; omega) (by omega) hB ?_
  · exact World.news_of_block (cs := #[.string e.k, .int .i64 e.c, .int .i64 e.n, .string e.v, .bool e.d]) (t := 39) (fr := (0, 0)) hb
  · intro v' w' ho' hg _
    have e1 : entCells l ++ entVals e = entCells (l ++ [e]) := by rw [entCells_append]; simp [entCells]
    rw [e1] at ho'
    rcases ho'.2 with ⟨h1, h2⟩ | ⟨g, cap', cur, rfl, _⟩
    · omega
    · exact h g cap' w' ho' hg

theorem own_low {w : World} {base base' : Nat} {e : TypeId} {size : Nat} {v : Value} {n : Nat} {xs : List Value} (h : w.ownsRow base e size v n xs) (hb : base' ≤ base) : w.ownsRow base' e size v n xs := by
  refine ⟨h.1, ?_⟩
  rcases h.2 with h0 | ⟨g, cap, cur, h1, h2, h3⟩
  · exact .inl h0
  · exact .inr ⟨g, cap, cur, h1, Nat.le_trans hb h2, h3⟩

theorem own_on {w w' : World} {base : Nat} {e : TypeId} {size : Nat} {v : Value} {n : Nat} {xs : List Value} (h : w.ownsRow base e size v n xs) (hb : Below w.heap.size w w') : w'.ownsRow base e size v n xs := by
  refine ⟨h.1, ?_⟩
  rcases h.2 with h0 | ⟨g, cap, cur, h1, h2, h3, h4⟩
  · exact .inl h0
  · exact .inr ⟨g, cap, cur, h1, h2, blk_on h3 hb, h4⟩

end Go.Proofs.YtlgcdcjhflihiaaDoor
namespace Go.Proofs.YtlgcdcjhflihiaaDoor
open Go.RowKit Go.Shelf
set_option linter.unusedVariables false

attribute [local go_sem] Oper.semAt_some

/-- An iterator over the entries es. -/
def SeqE (w : World) (lb : Array Value) (es : List En) : Prop := ∃ N, N ≤ 1000000 ∧ es.length ≤ N ∧ SeqO Tryd.prog 69 lb encE KpT (fun ys => ys = es) (fun q => q <+: es) N w

theorem SeqE.below {w w' : World} {lb : Array Value} {es : List En} (h : SeqE w lb es) (b : Below w.heap.size w w') : SeqE w' lb es := by
  obtain ⟨N, h1, h2, h3⟩ := h
  exact ⟨N, h1, h2, h3.of_below b⟩

/-- What is gone through: what is in the range, dead ones only if they are wanted. -/
def thruL (lo hi : ByteArray) (op dd : Bool) (Ls : List En) : List En := (Ls.filter (inR lo hi op)).filter (fun e => dd || !e.d)

theorem rows_thru {T : Tr En Tl} {Ls : List En} {lo hi : ByteArray} {op : Bool} (hH : Hol T Ls) (h : op = true ∨ kLt hi lo = false) (dd : Bool) : entsOf dd (spanL T (belE lo Ls : Int) (endE hi op Ls : Int)) = thruL lo hi op dd Ls := by
  unfold spanL entsOf thruL
  have h1 := belE_le lo Ls
  have h2 := endE_le hi op Ls
  rw [show (max (belE lo Ls : Int) 0).toNat = belE lo Ls from by omega, show (min (endE hi op Ls : Int) (T.cnt : Int)).toNat = endE hi op Ls from by rw [hH.cnt]; omega, hH.rows, seg_map, seg_range hH.rises h, List.map_map]
  congr 1
  exact List.map_id _

set_option maxHeartbeats 3200000 in
set_option maxRecDepth 100000 in
theorem sthru (lo hi : ByteArray) (op dd : Bool) {Ls : List En} {w : World} {sb g tb : Nat} {nd ck : Int} {T : Tr En Tl} {n : Nat} (h : IsSt w sb g tb nd ck T n) (hH : Hol T Ls) (hl : Ls.length ≤ 1000000) :
    Calls Tryd.prog 45 #[.pointer (some ⟨sb, 0, none⟩), .agg #[.string lo, .string hi, .bool op], .bool dd] w fun r w' => Below w.heap.size w w' ∧ ((Rg.chk ⟨lo, hi, op⟩ ≠ 0 ∧ r = .returned (.tuple #[.nilFunc, .int .i64 (Rg.chk ⟨lo, hi, op⟩)])) ∨ (Rg.chk ⟨lo, hi, op⟩ = 0 ∧ ∃ lb, r = .returned (.tuple #[.func (.func 69) #[] lb, .int .i64 0]) ∧ SeqE w' lb (thruL lo hi op dd Ls))) := by
  have hmf : ∀ (fn : Fn) (first cap : Array Value) (w : World), (Instr.makeFunc fn first cap).run Tryd.prog w = .ok (.func fn first cap) w := fun _ _ _ _ => rfl
  have b0 := bnew w (.cells #[.string lo, .string hi, .bool op] 35)
  have b1 := bnew (w.alloc (.cells #[.string lo, .string hi, .bool op] 35)) (.cells #[.bool dd] 4)
  have B := aside (bthen b0 b1)
  have G0 := aside (blk_on (heap_alloc_new w (.cells #[.string lo, .string hi, .bool op] 35)) b1)
  have g1 := heap_alloc_new (w.alloc (.cells #[.string lo, .string hi, .bool op] 35)) (.cells #[.bool dd] 4)
  simp only [World.size_alloc] at g1
  have G1 := aside g1
  have H := aside (h.below B.out)
  have C1 := aside (fun (W : World) => check_any lo hi op W)
  have CR := aside (fun (W : World) (h : IsSt W sb g tb nd ck T n) => srows lo hi op h hH hl)
  have HH := aside hH
  have HLE := aside hl
  obtain ⟨c, hc⟩ : ∃ c, Rg.chk ⟨lo, hi, op⟩ = c := ⟨_, rfl⟩
  rw [hc] at C1 ⊢
  have HC := aside hc
  clear h hH hl b0 b1 g1 hc
  obtain ⟨q0, q1, q2, -⟩ := tri G0.out
  by_cases h0 : c = 0
  · subst h0
    go_enter Tryd.func45, Tryd.ntmps45
    go_wp2_with fail
    refine (C1.out _).mono ?_
    rintro e w1 ⟨rfl, b1⟩
    have H1 := aside (H.out.below b1)
    have G1' := aside (blk_on G1.out b1)
    have B1 := aside (bthen B.out b1)
    obtain ⟨r0, r1, r2, -⟩ := tri (blk_on G0.out b1)
    clear b1 H G1 G0 B C1 q0 q1 q2
    go_wp2_with fail
    refine (CR.out _ H1.out).mono ?_
    rintro e w2 ⟨rfl, b2⟩
    have H2 := aside (H1.out.below b2)
    have G2 := aside (blk_on G1'.out b2)
    have B2 := aside (bthen B1.out b2)
    obtain ⟨-, -, -, c3, -⟩ := quad H2.out.blk
    clear b2 H1 G1' B1 CR r0 r1 r2
    go_wp2_with fail
    obtain ⟨p, ht, hT⟩ := H2.out.tree
    have HT := aside hT
    have CS := aside (yspan (belE lo Ls : Int) (endE hi op Ls : Int) ht)
    clear ht hT
    refine CS.out.mono ?_
    rintro e w3 ⟨lbS, rfl, hs, b3⟩
    have HS := aside hs
    have B3 := aside b3
    clear hs b3 CS c3
    go_wp2
    go_ret2
    have b4 := bnew w3 (.cells #[.func (.func 58) #[] lbS] 94)
    have hcn := HH.out.cnt
    have hT3 : IsTE w3 p T := HT.out.on (fun _ _ e => blk_on e B3.out)
    have hle := HLE.out
    have hsp : (spanL T (belE lo Ls : Int) (endE hi op Ls : Int)).length ≤ Ls.length := by
      unfold spanL seg
      have := Tr.rows_length T
      simp only [List.length_drop, List.length_take]
      omega
    have hq := thru1 (dd := dd) (hb := w3.heap.size) (db := w.heap.size + 1) (sg := spanL T (belE lo Ls : Int) (endE hi op Ls : Int)) (heap_alloc_new w3 (.cells #[.func (.func 58) #[] lbS] 94)) (blk_on (blk_on G2.out B3.out) b4)
      (SeqO.of_stops fun n => span1 (HS.out.below b4) (hT3.on (fun _ _ e => blk_on e b4)) (by omega) (by omega) (Nat.le_refl _) (fun A B h => h.1))
    rw [rows_thru HH.out (chk_may HC.out) dd] at hq
    refine ⟨bthen (bthen B2.out B3.out) b4, .inr ⟨by simp, _, rfl, (spanL T (belE lo Ls : Int) (endE hi op Ls : Int)).length, by omega, ?_, hq⟩⟩
    rw [← rows_thru HH.out (chk_may HC.out) dd]
    exact entsOf_length _ _
  · have h0' : (c == 0) = false := beq_eq_false_iff_ne.2 h0
    have HN := aside h0
    clear h0
    go_enter Tryd.func45, Tryd.ntmps45
    go_wp2_with fail
    refine (C1.out _).mono ?_
    rintro e w1 ⟨rfl, b1⟩
    have B1 := aside (bthen B.out b1)
    clear b1 H G1 G0 B C1 q0 q1 q2
    go_wp2
    go_ret2
    exact ⟨B1.out, .inl ⟨HN.out, rfl⟩⟩

set_option maxHeartbeats 3200000 in
set_option maxRecDepth 100000 in
theorem sall (lo hi : ByteArray) (op : Bool) {Ls : List En} {w : World} {sb g tb : Nat} {nd ck : Int} {T : Tr En Tl} {n : Nat} (h : IsSt w sb g tb nd ck T n) (hH : Hol T Ls) (hl : Ls.length ≤ 1000000) :
    Calls Tryd.prog 26 #[.pointer (some ⟨sb, 0, none⟩), .agg #[.string lo, .string hi, .bool op]] w fun r w' => Below w.heap.size w w' ∧ ((Rg.chk ⟨lo, hi, op⟩ ≠ 0 ∧ r = .returned (.tuple #[.nilFunc, .int .i64 (Rg.chk ⟨lo, hi, op⟩)])) ∨ (Rg.chk ⟨lo, hi, op⟩ = 0 ∧ ∃ lb, r = .returned (.tuple #[.func (.func 69) #[] lb, .int .i64 0]) ∧ SeqE w' lb (thruL lo hi op true Ls))) := by
  have b0 := bnew w (.cells #[.string lo, .string hi, .bool op] 35)
  have C := aside (sthru lo hi op true (h.below b0) hH hl)
  have B := aside b0
  obtain ⟨q0, q1, q2, -⟩ := tri (heap_alloc_new w (.cells #[.string lo, .string hi, .bool op] 35))
  clear h hH hl b0
  go_enter Tryd.func26, Tryd.ntmps26
  go_wp2_with fail
  refine C.out.mono ?_
  rintro r w1 ⟨b1, ⟨hc, rfl⟩ | ⟨hc, lb, rfl, hs⟩⟩
  · have B1 := aside (bthen B.out b1)
    have HC := aside hc
    clear b1 hc C q0 q1 q2
    go_wp2
    go_ret2
    exact ⟨B1.out, .inl ⟨HC.out, rfl⟩⟩
  · have B1 := aside (bthen B.out b1)
    have HC := aside hc
    have HS := aside hs
    clear b1 hc hs C q0 q1 q2
    go_wp2
    go_ret2
    exact ⟨B1.out, .inr ⟨HC.out, _, rfl, HS.out⟩⟩

theorem qall (lo hi : ByteArray) (op : Bool) {w : World} {sb g tb : Nat} {nd ck : Int} {Ls : List En} (h : Sto w sb g tb nd ck Ls) (hl : Ls.length ≤ 1000000) :
    Calls Tryd.prog 26 #[.pointer (some ⟨sb, 0, none⟩), .agg #[.string lo, .string hi, .bool op]] w fun r w' => Below w.heap.size w w' ∧ ((Rg.chk ⟨lo, hi, op⟩ ≠ 0 ∧ r = .returned (.tuple #[.nilFunc, .int .i64 (Rg.chk ⟨lo, hi, op⟩)])) ∨ (Rg.chk ⟨lo, hi, op⟩ = 0 ∧ ∃ lb, r = .returned (.tuple #[.func (.func 69) #[] lb, .int .i64 0]) ∧ SeqE w' lb (thruL lo hi op true Ls))) := by
  obtain ⟨T, n, h1, h2⟩ := h
  exact sall lo hi op h1 h2 hl



end Go.Proofs.YtlgcdcjhflihiaaDoor

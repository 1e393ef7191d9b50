/-
  hold: an entry is put, the clock is met.
  roomFor, Get, rows and Fold.
  rows and Fold.
  Next, the code's and the document's own, as one plain function; and what it promises.
-/
import Derived.Test.YtlbkcndmljlnmaaDoorBx16
import Derived.Deep.RegionHeld
import Derived.OrdersHeld
import Derived.Deep.RegionWith
import Derived.Deep.RegionHeld3
import Derived.Test.YtlbkcndmljlnmaaDoorBx1
namespace Go.Proofs.YtlbkcndmljlnmaaDoor
open Go.RowKit
set_option linter.unusedVariables false
/-- The clock that has met a counter. -/
def ckm (ck c : Int) : Int := if ck < c then c else ck
theorem held_hold {w X : World} {sb g tb : Nat} {nd ck : Int} {T : Tr En Tl} {n : Nat} {e : En} (h : IsSt X sb g tb nd ck T n) (hb : X.heap[w.heap.size]? = some (.cells #[.string e.k, .int .i64 e.c, .int .i64 e.n, .string e.v, .bool e.d] 44 (0, 0))) : X.cell? ⟨sb, 3, none⟩ = some (.pointer (some ⟨tb, 0, none⟩)) ∧ X.cell? ⟨w.heap.size, 0, none⟩ = some (.string e.k) ∧ X.cell? ⟨w.heap.size, 1, none⟩ = some (.int .i64 e.c) ∧ X.cell? ⟨w.heap.size, 2, none⟩ = some (.int .i64 e.n) ∧ X.cell? ⟨w.heap.size, 3, none⟩ = some (.string e.v) ∧ X.cell? ⟨w.heap.size, 4, none⟩ = some (.bool e.d) := by
  obtain ⟨c0, c1, c2, c3, -⟩ := quad h.blk
  obtain ⟨b0, b1, b2, b3, b4, -⟩ := penta hb
  exact ⟨c3, b0, b1, b2, b3, b4⟩
theorem hold_end {w X : World} {sb g tb : Nat} {nd ck : Int} {T : Tr En Tl} {n : Nat} (h : IsSt X sb g tb nd ck T n) (k : Keeps (Of sb g tb) w X) (c : Int) : IsSt (X.setCell ⟨sb, 1, none⟩ (.int .i64 c)) sb g tb nd c T n ∧ Keeps (Of sb g tb) w (X.setCell ⟨sb, 1, none⟩ (.int .i64 c)) := by
  obtain ⟨a1, a2, a3⟩ := h.apart
  obtain ⟨p, ht, hT⟩ := h.tree
  refine ⟨⟨heap_setCell_same X sb 1 _ _ (.int .i64 c) h.blk, h.cnt.setCell (p := ⟨sb, 1, none⟩) _ (fun e => a1 (by cases e; rfl)), ⟨p, (heap_setCell_other _ _ _ _ (fun e => a2 (by dsimp only at e; exact e.symm))).trans ht, hT.on ((Stay.refl _ X).setCell _ (fun cs e => by dsimp only at e; rw [h.blk] at e; simp at e))⟩⟩, k.setCell (p := ⟨sb, 1, none⟩) (fun _ => .inl rfl) _⟩
theorem hold_mid {w V W : World} {sb g tb : Nat} {nd ck : Int} {T T' : Tr En Tl} {n m : Nat} {e : En} (h : IsSt V sb g tb nd ck T n) (hg : V.heap[w.heap.size]? = some (.cells #[.string e.k, .int .i64 e.c, .int .i64 e.n, .string e.v, .bool e.d] 44 (0, 0))) (b : Below w.heap.size w V) (c : CntE (some g) m W) (k : Keeps (fun x => x = tb ∨ OnC (some g) x) V W) (t : TreeE W tb (jvE g) T') :
    (W.cell? ⟨sb, 3, none⟩ = some (.pointer (some ⟨tb, 0, none⟩)) ∧ W.cell? ⟨w.heap.size, 0, none⟩ = some (.string e.k) ∧ W.cell? ⟨w.heap.size, 1, none⟩ = some (.int .i64 e.c) ∧ W.cell? ⟨w.heap.size, 2, none⟩ = some (.int .i64 e.n) ∧ W.cell? ⟨w.heap.size, 3, none⟩ = some (.string e.v) ∧ W.cell? ⟨w.heap.size, 4, none⟩ = some (.bool e.d)) ∧ IsSt W sb g tb nd ck T' m ∧ W.heap[w.heap.size]? = some (.cells #[.string e.k, .int .i64 e.c, .int .i64 e.n, .string e.v, .bool e.d] 44 (0, 0)) ∧ Keeps (Of sb g tb) w W := by
  obtain ⟨a1, a2, a3⟩ := h.apart
  have hn := h.not hg (by decide) (by decide) (by decide)
  have G : W.heap[w.heap.size]? = some (.cells #[.string e.k, .int .i64 e.c, .int .i64 e.n, .string e.v, .bool e.d] 44 (0, 0)) := blk_keep hg k (fun x => hn (by rcases x with x | x; exact .inr (.inl x); exact .inr (.inr (Option.some.inj x).symm)))
  have H : IsSt W sb g tb nd ck T' m := ⟨blk_keep h.blk k (fun x => by rcases x with x | x; exact a2 x; exact a1 (Option.some.inj x).symm), c, t⟩
  exact ⟨held_hold H G, H, G, (Keeps.of_below b _).trans (k.mono (fun _ _ x => by rcases x with x | x; exact .inr (.inl x); exact .inr (.inr (Option.some.inj x).symm)))⟩
set_option maxHeartbeats 3200000 in
set_option maxRecDepth 100000 in
theorem shold (e : En) {Ls : List En} {w : World} {sb g tb : Nat} {nd ck : Int} {T : Tr En Tl} {n : Nat} (h : IsSt w sb g tb nd ck T n) (L : Lanes w) (hH : Hol T Ls) (hl : Ls.length ≤ 1000000) (hk : e.k.size ≤ 140737488351232) :
    Calls Tryd.prog 25 #[.pointer (some ⟨sb, 0, none⟩), .agg #[.string e.k, .int .i64 e.c, .int .i64 e.n, .string e.v, .bool e.d]] w fun r w' => r = .returned (.tuple #[]) ∧ IsSt w' sb g tb nd (ckm ck e.c) (Tr.put e.k e (tof e) T) (n + Tr.putC e.k e (tof e) T) ∧ Keeps (Of sb g tb) w w' := by
  have B0 := aside (bnew w (.cells #[.string e.k, .int .i64 e.c, .int .i64 e.n, .string e.v, .bool e.d] 44))
  have G := aside (heap_alloc_new w (.cells #[.string e.k, .int .i64 e.c, .int .i64 e.n, .string e.v, .bool e.d] 44))
  have H := aside (h.alloc (.cells #[.string e.k, .int .i64 e.c, .int .i64 e.n, .string e.v, .bool e.d] 44))
  have CO : Hid (∀ W : World, Lanes W → Calls Tryd.prog 61 #[.agg #[.string e.k, .int .i64 e.c, .int .i64 e.n, .string e.v, .bool e.d]] W fun r w' => r = .returned (.agg #[.int .i64 (tof e).n, .int .u64 (tof e).a, .int .u64 (tof e).b]) ∧ Below W.heap.size W w') := fun W hW => by
    rw [tof_n, tof_a, tof_b]
    exact tof_any e.k e.c e.n e.v e.d W hW hk
  have CP : Hid (∀ W : World, IsSt W sb g tb nd ck T n → Calls Tryd.prog 60 #[.pointer (some ⟨tb, 0, none⟩), .string e.k, .agg #[.string e.k, .int .i64 e.c, .int .i64 e.n, .string e.v, .bool e.d], .agg #[.int .i64 (tof e).n, .int .u64 (tof e).a, .int .u64 (tof e).b]] W fun r w' => r = .returned (.tuple #[.agg #[.string ((Tr.found e.k T).val eNone).k, .int .i64 ((Tr.found e.k T).val eNone).c, .int .i64 ((Tr.found e.k T).val eNone).n, .string ((Tr.found e.k T).val eNone).v, .bool ((Tr.found e.k T).val eNone).d], .bool (!(Tr.found e.k T).isNil)]) ∧ TreeE w' tb (jvE g) (Tr.put e.k e (tof e) T) ∧ CntE (some g) (n + Tr.putC e.k e (tof e) T) w' ∧ Keeps (fun x => x = tb ∨ OnC (some g) x) W w') := fun W hW =>
    yputE e.k e (tof e) hW.tree (bothJv g) hW.cnt hH.gd (by show Ls.length + 1 + 0 ≤ _; omega)
  have LL := aside (L.keep B0.out)
  generalize Tr.putC e.k e (tof e) T = pc at *
  generalize Tr.put e.k e (tof e) T = T' at *
  generalize (Tr.found e.k T).val eNone = fv at *
  generalize (!(Tr.found e.k T).isNil) = fb at *
  generalize (tof e).n = t0 at *
  generalize (tof e).a = t1 at *
  generalize (tof e).b = t2 at *
  clear h L hH hl hk
  go_enter Tryd.func25, Tryd.ntmps25
  go_wp2_with fail
  generalize w.alloc (.cells #[.string e.k, .int .i64 e.c, .int .i64 e.n, .string e.v, .bool e.d] 44) = V at *
  refine wp_region_held_drew (S := fun X => X.cell? ⟨sb, 3, none⟩ = some (.pointer (some ⟨tb, 0, none⟩)) ∧ X.cell? ⟨w.heap.size, 0, none⟩ = some (.string e.k) ∧ X.cell? ⟨w.heap.size, 1, none⟩ = some (.int .i64 e.c) ∧ X.cell? ⟨w.heap.size, 2, none⟩ = some (.int .i64 e.n) ∧ X.cell? ⟨w.heap.size, 3, none⟩ = some (.string e.v) ∧ X.cell? ⟨w.heap.size, 4, none⟩ = some (.bool e.d)) (by kernel_rfl) (held_hold H.out.drew G.out) (fun hHeld => ?_)
  refine wpAnyH_take (i := 0) (v := ?_) rfl (by kernel_rfl) (by kernel_rfl) (by kernel_rfl) (fun _ _ _ h => h) (Or.inl ⟨by rfl, ?_⟩) (by assumption) ?_
  rotate_left
  · intro w hSw
    go_simp
    try with_reducible rfl
  simp only [Act.put, List.getElem_toArray, List.getElem_cons_zero, List.setIfInBounds_toArray, List.set_cons_zero, List.set_cons_succ]
  refine wpAnyH_take (i := 1) (v := ?_) rfl (by kernel_rfl) (by kernel_rfl) (by kernel_rfl) (fun _ _ _ h => h) (Or.inl ⟨by rfl, ?_⟩) (by assumption) ?_
  rotate_left
  · intro w hSw
    go_simp
    try with_reducible rfl
  simp only [Act.put, List.getElem_toArray, List.getElem_cons_zero, List.getElem_cons_succ, List.setIfInBounds_toArray, List.set_cons_zero, List.set_cons_succ]
  refine wpAnyH_take (i := 2) (v := ?_) rfl (by kernel_rfl) (by kernel_rfl) (by kernel_rfl) (fun _ _ _ h => h) (Or.inl ⟨by rfl, ?_⟩) (by assumption) ?_
  rotate_left
  · intro w hSw
    go_simp
    try with_reducible rfl
  simp only [Act.put, List.getElem_toArray, List.getElem_cons_zero, List.getElem_cons_succ, List.setIfInBounds_toArray, List.set_cons_zero, List.set_cons_succ]
  refine wpAnyH_take (i := 3) (v := ?_) rfl (by kernel_rfl) (by kernel_rfl) (by kernel_rfl) (fun _ _ _ h => h) (Or.inl ⟨by rfl, ?_⟩) (by assumption) ?_
  rotate_left
  · intro w hSw
    go_simp
    try with_reducible rfl
  simp only [Act.put, List.getElem_toArray, List.getElem_cons_zero, List.getElem_cons_succ, List.setIfInBounds_toArray, List.set_cons_zero, List.set_cons_succ]
  refine wpAnyH_take (i := 4) (v := ?_) rfl (by kernel_rfl) (by kernel_rfl) (by kernel_rfl) (fun _ _ _ h => h) (Or.inl ⟨by rfl, ?_⟩) (by assumption) ?_
  rotate_left
  · intro w hSw
    go_simp
    try with_reducible rfl
  simp only [Act.put, List.getElem_toArray, List.getElem_cons_zero, List.getElem_cons_succ, List.setIfInBounds_toArray, List.set_cons_zero, List.set_cons_succ]
  refine wpAnyH_take (i := 5) (v := ?_) rfl (by kernel_rfl) (by kernel_rfl) (by kernel_rfl) (fun _ _ _ h => h) (Or.inl ⟨by rfl, ?_⟩) (by assumption) ?_
  rotate_left
  · intro w hSw
    go_simp
    try with_reducible rfl
  simp only [Act.put, List.getElem_toArray, List.getElem_cons_zero, List.getElem_cons_succ, List.setIfInBounds_toArray, List.set_cons_zero, List.set_cons_succ]
  refine wpAnyH_take (i := 6) (v := ?_) rfl (by kernel_rfl) (by kernel_rfl) (by kernel_rfl) (fun _ _ _ h => h) (Or.inl ⟨by rfl, ?_⟩) (by assumption) ?_
  rotate_left
  · intro w hSw
    go_simp
    try with_reducible rfl
  simp only [Act.put, List.getElem_toArray, List.getElem_cons_zero, List.getElem_cons_succ, List.setIfInBounds_toArray, List.set_cons_zero, List.set_cons_succ]
  refine wpAnyH_take (i := 7) (v := ?_) rfl (by kernel_rfl) (by kernel_rfl) (by kernel_rfl) (fun _ _ _ h => h) (Or.inl ⟨by rfl, ?_⟩) (by assumption) ?_
  rotate_left
  · intro w hSw
    go_simp
    try with_reducible rfl
  simp only [Act.put, List.getElem_toArray, List.getElem_cons_zero, List.getElem_cons_succ, List.setIfInBounds_toArray, List.set_cons_zero, List.set_cons_succ]
  refine wpAnyH_ready (rs := [8]) (by kernel_rfl) (by simp) ?_
  refine AllReadyH.cons rfl (fun K hK => ?_) AllReadyH.nil
  go_simp
  refine (CO.out _ LL.out.drew).mono ?_
  rintro e w9 ⟨rfl, bb⟩
  refine hK.out _ _ (held_hold (H.out.drew.below bb) (blk_on (show V.drew.heap[w.heap.size]? = some _ from G.out) bb)) (fun hHeld => ?_)
  clear hK K 
  have H1 := aside (H.out.drew.below bb)
  have G1 := aside (blk_on (show V.drew.heap[w.heap.size]? = some _ from G.out) bb)
  have B1 := aside (B0.out.drew.trans (bb.mono B0.out.drew.size))
  clear bb H G B0 LL CO
  refine wpAnyH_ready (rs := [9]) (by kernel_rfl) (by simp) ?_
  refine AllReadyH.cons rfl (fun K hK => ?_) AllReadyH.nil
  go_simp
  have HF := aside (fun (W : World) (c : CntE (some g) (n + pc) W) (k : Keeps (fun x => x = tb ∨ OnC (some g) x) w9 W) (t : TreeE W tb (jvE g) T') => hold_mid (e := e) H1.out G1.out B1.out c k t)
  refine (CP.out _ H1.out).mono ?_
  rintro e w8 ⟨rfl, ht, bb2, kk⟩
  refine hK.out _ _ ((HF.out _ bb2 kk ht).1) (fun hHeld => ?_)
  clear hK K 
  obtain ⟨-, H2, G2, K2⟩ := HF.out _ bb2 kk ht
  have H2' := aside H2
  have G2' := aside G2
  have K2' := aside K2
  clear H2 G2 K2 ht bb2 kk HF H1 G1 B1 CP hHeld
  refine wpAnyH_done (by kernel_rfl) ?_ _
  go_wp2_with fail
  refine wp_region_held_drew (S := fun X => X.cell? ⟨w.heap.size, 1, none⟩ = some (.int .i64 e.c)) (by kernel_rfl) (penta (show w8.drew.heap[w.heap.size]? = some _ from G2'.out)).2.1 (fun hHeld => ?_)
  refine wpAnyH_take (i := 0) (v := ?_) rfl (by kernel_rfl) (by kernel_rfl) (by kernel_rfl) (fun _ _ _ h => h) (Or.inl ⟨by rfl, ?_⟩) (by assumption) ?_
  rotate_left
  · intro w hSw
    go_simp
    try with_reducible rfl
  simp only [Act.put, List.getElem_toArray, List.getElem_cons_zero, List.setIfInBounds_toArray, List.set_cons_zero, List.set_cons_succ]
  refine wpAnyH_take (i := 1) (v := ?_) rfl (by kernel_rfl) (by kernel_rfl) (by kernel_rfl) (fun _ _ _ h => h) (Or.inl ⟨by rfl, ?_⟩) (by assumption) ?_
  rotate_left
  · intro w hSw
    go_simp
    try with_reducible rfl
  simp only [Act.put, List.getElem_toArray, List.getElem_cons_zero, List.getElem_cons_succ, List.setIfInBounds_toArray, List.set_cons_zero, List.set_cons_succ]
  refine wpAnyH_take (i := 2) (v := ?_) rfl (by kernel_rfl) (by kernel_rfl) (by kernel_rfl) (fun _ _ _ h => h) (Or.inl ⟨by rfl, ?_⟩) (by assumption) ?_
  rotate_left
  · intro w hSw
    go_simp
    try with_reducible rfl
  simp only [Act.put, List.getElem_toArray, List.getElem_cons_zero, List.getElem_cons_succ, List.setIfInBounds_toArray, List.set_cons_zero, List.set_cons_succ]
  refine wpAnyH_take (i := 3) (v := ?_) rfl (by kernel_rfl) (by kernel_rfl) (by kernel_rfl) (fun _ _ _ h => h) (Or.inl ⟨by rfl, ?_⟩) (by assumption) ?_
  rotate_left
  · intro w hSw
    go_simp
    try with_reducible rfl
  simp only [Act.put, List.getElem_toArray, List.getElem_cons_zero, List.getElem_cons_succ, List.setIfInBounds_toArray, List.set_cons_zero, List.set_cons_succ]
  refine wpAnyH_take (i := 5) (v := ?_) rfl (by kernel_rfl) (by kernel_rfl) (by kernel_rfl) (fun _ _ _ h => h) (Or.inl ⟨by rfl, ?_⟩) (by assumption) ?_
  rotate_left
  · intro w hSw
    go_simp
    try with_reducible rfl
  simp only [Act.put, List.getElem_toArray, List.getElem_cons_zero, List.getElem_cons_succ, List.setIfInBounds_toArray, List.set_cons_zero, List.set_cons_succ]
  refine wpAnyH_take (i := 6) (v := ?_) rfl (by kernel_rfl) (by kernel_rfl) (by kernel_rfl) (fun _ _ _ h => h) (Or.inl ⟨by rfl, ?_⟩) (by assumption) ?_
  rotate_left
  · intro w hSw
    go_simp
    try with_reducible rfl
  simp only [Act.put, List.getElem_toArray, List.getElem_cons_zero, List.getElem_cons_succ, List.setIfInBounds_toArray, List.set_cons_zero, List.set_cons_succ]
  refine wpAnyH_take (i := 7) (v := ?_) rfl (by kernel_rfl) (by kernel_rfl) (by kernel_rfl) (fun _ _ _ h => h) (Or.inl ⟨by rfl, ?_⟩) (by assumption) ?_
  rotate_left
  · intro w hSw
    go_simp
    try with_reducible rfl
  simp only [Act.put, List.getElem_toArray, List.getElem_cons_zero, List.getElem_cons_succ, List.setIfInBounds_toArray, List.set_cons_zero, List.set_cons_succ]
  obtain ⟨-, s1, -, -, z1⟩ := quad H2'.out.drew.blk
  refine wpAnyH_ready (rs := [4]) (by kernel_rfl) (by simp) ?_
  refine AllReadyH.cons rfl (fun K hK => ?_) AllReadyH.nil
  go_simp
  refine hK.out _ _ (hHeld) (fun hHeld => ?_)
  clear hK K 
  refine wpAnyH_take (i := 8) (v := ?_) rfl (by kernel_rfl) (by kernel_rfl) (by kernel_rfl) (fun _ _ _ h => h) (Or.inl ⟨by rfl, ?_⟩) (by assumption) ?_
  rotate_left
  · intro w hSw
    go_simp
    try with_reducible rfl
  simp only [Act.put, List.getElem_toArray, List.getElem_cons_zero, List.getElem_cons_succ, List.setIfInBounds_toArray, List.set_cons_zero, List.set_cons_succ]
  generalize hm : (if ck < e.c then e.c else ck) = mh
  have HM := aside (show ckm ck e.c = mh from hm)
  clear hm
  refine wpAnyH_take (i := 9) (v := ?_) rfl (by kernel_rfl) (by kernel_rfl) (by kernel_rfl) (fun _ _ _ h => h) (Or.inl ⟨by rfl, ?_⟩) (by assumption) ?_
  rotate_left
  · intro w hSw
    go_simp
    try with_reducible rfl
  simp only [Act.put, List.getElem_toArray, List.getElem_cons_zero, List.getElem_cons_succ, List.setIfInBounds_toArray, List.set_cons_zero, List.set_cons_succ]
  refine wpAnyH_take (i := 10) (v := ?_) rfl (by kernel_rfl) (by kernel_rfl) (by kernel_rfl) (fun _ _ _ h => h) (Or.inl ⟨by rfl, ?_⟩) (by assumption) ?_
  rotate_left
  · intro w hSw
    go_simp
    try with_reducible rfl
  simp only [Act.put, List.getElem_toArray, List.getElem_cons_zero, List.getElem_cons_succ, List.setIfInBounds_toArray, List.set_cons_zero, List.set_cons_succ]
  refine wpAnyH_ready (rs := [11]) (by kernel_rfl) (by simp) ?_
  refine AllReadyH.cons rfl (fun K hK => ?_) AllReadyH.nil
  go_simp
  refine hK.out _ _ ((penta ((heap_setCell_other _ ⟨sb, 1, none⟩ _ _ (fun e => by have h9 := H2'.out.blk; have h8 := G2'.out; dsimp only at e; rw [e, h9] at h8; simp at h8)).trans (show w8.drew.heap[w.heap.size]? = some _ from G2'.out))).2.1) (fun hHeld => ?_)
  clear hK K 
  refine wpAnyH_done (by kernel_rfl) ?_ _
  go_wp2
  go_end0
  rw [HM.out]
  obtain ⟨k1, k2⟩ := hold_end H2'.out K2'.out mh
  exact ⟨rfl, k1.drew, k2.drew⟩
end Go.Proofs.YtlbkcndmljlnmaaDoor
namespace Go.Proofs.YtlbkcndmljlnmaaDoor
open Go.RowKit
set_option linter.unusedVariables false
theorem yget_at {w : World} {tb g : Nat} {T : Tr En Tl} {Ls : List En} (k : ByteArray) {o : En} {q : Bool} (h : TreeE w tb (jvE g) T) (hH : Hol T Ls) (hl : Ls.length ≤ 1000000) (ho : (lookE k Ls).getD eNone = o) (hq : (lookE k Ls).isSome = q) :
    Calls Tryd.prog 53 #[.pointer (some ⟨tb, 0, none⟩), .string k] w fun e w' => e = .returned (.tuple #[.agg #[.string o.k, .int .i64 o.c, .int .i64 o.n, .string o.v, .bool o.d], .bool q]) ∧ Below w.heap.size w w' := by
  have h1 := ygetE k h hH.gd (by omega)
  rw [(hH.found k).1, (hH.found k).2, ho, hq] at h1
  exact h1
/-- Is there room for an entry under a key? -/
def roomB (k : ByteArray) (Ls : List En) : Bool := (lookE k Ls).isSome || decide (Ls.length < 256)
set_option maxHeartbeats 3200000 in
set_option maxRecDepth 100000 in
theorem sroom (k : ByteArray) {Ls : List En} {w : World} {sb g tb : Nat} {nd ck : Int} {T : Tr En Tl} {n : Nat} (h : IsSt w sb g tb nd ck T n) (hH : Hol T Ls) (hl : Ls.length ≤ 1000000) :
    Calls Tryd.prog 52 #[.pointer (some ⟨sb, 0, none⟩), .string k] w fun r w' => r = .returned (.bool (roomB k Ls)) ∧ Below w.heap.size w w' := by
  obtain ⟨o, ho⟩ : ∃ o, (lookE k Ls).getD eNone = o := ⟨_, rfl⟩
  have H := aside h
  have HC := aside (show (T.cnt : Int) = (Ls.length : Int) from by rw [hH.cnt])
  obtain ⟨-, -, -, c3, -⟩ := quad h.blk
  cases hq : (lookE k Ls).isSome
  · have C := aside (yget_at k h.tree hH hl ho hq)
    by_cases h2 : Ls.length < 256
    · have HR := aside (show roomB k Ls = true from by unfold roomB; rw [hq]; simp [h2])
      have h2' : (Ls.length : Int) < 256 := by omega
      clear h hH hl ho hq h2
      go_enter Tryd.func52, Tryd.ntmps52
      go_wp2_with fail
      refine C.out.mono ?_
      rintro e w1 ⟨rfl, b1⟩
      have B1 := aside (bthen b1 (bnew w1 (.cells #[.string o.k, .int .i64 o.c, .int .i64 o.n, .string o.v, .bool o.d] 44)))
      have CL := aside (slen (H.out.below B1.out))
      rw [HC.out] at CL
      clear b1 c3 C
      go_wp2_with fail
      refine CL.out.mono ?_
      rintro e w2 ⟨rfl, rfl⟩
      go_wp2
      go_ret
      exact ⟨by rw [HR.out]; first | rfl | (rw [← show decide ((Ls.length : Int) < 256) = false from decide_eq_false (by omega)]; rfl), B1.out⟩
    · have HR := aside (show roomB k Ls = false from by unfold roomB; rw [hq]; simp [h2])
      have h2' : ¬ (Ls.length : Int) < 256 := by omega
      clear h hH hl ho hq h2
      go_enter Tryd.func52, Tryd.ntmps52
      go_wp2_with fail
      refine C.out.mono ?_
      rintro e w1 ⟨rfl, b1⟩
      have B1 := aside (bthen b1 (bnew w1 (.cells #[.string o.k, .int .i64 o.c, .int .i64 o.n, .string o.v, .bool o.d] 44)))
      have CL := aside (slen (H.out.below B1.out))
      rw [HC.out] at CL
      clear b1 c3 C
      go_wp2_with fail
      refine CL.out.mono ?_
      rintro e w2 ⟨rfl, rfl⟩
      go_wp2
      go_ret
      exact ⟨by rw [HR.out]; first | rfl | (rw [← show decide ((Ls.length : Int) < 256) = false from decide_eq_false (by omega)]; rfl), B1.out⟩
  · have C := aside (yget_at k h.tree hH hl ho hq)
    have HR := aside (show roomB k Ls = true from by unfold roomB; rw [hq]; rfl)
    clear h hH hl ho hq
    go_enter Tryd.func52, Tryd.ntmps52
    go_wp2_with fail
    refine C.out.mono ?_
    rintro e w1 ⟨rfl, b1⟩
    have B1 := aside (bthen b1 (bnew w1 (.cells #[.string o.k, .int .i64 o.c, .int .i64 o.n, .string o.v, .bool o.d] 44)))
    clear b1 c3 C
    go_wp2
    go_ret
    exact ⟨by rw [HR.out]; first | rfl | (rw [← show decide ((Ls.length : Int) < 256) = false from decide_eq_false (by omega)]; rfl), B1.out⟩
end Go.Proofs.YtlbkcndmljlnmaaDoor
namespace Go.Proofs.YtlbkcndmljlnmaaDoor
open Go.RowKit
set_option linter.unusedVariables false
theorem held_rows {w X : World} {sb g tb : Nat} {nd ck : Int} {T : Tr En Tl} {n : Nat} {lo hi : ByteArray} {op : Bool} (h : IsSt X sb g tb nd ck T n) (hb : X.heap[w.heap.size]? = some (.cells #[.string lo, .string hi, .bool op] 51 (0, 0))) : X.cell? ⟨sb, 3, none⟩ = some (.pointer (some ⟨tb, 0, none⟩)) ∧ X.cell? ⟨w.heap.size, 0, none⟩ = some (.string lo) ∧ X.cell? ⟨w.heap.size, 1, none⟩ = some (.string hi) ∧ X.cell? ⟨w.heap.size, 2, none⟩ = some (.bool op) := by
  obtain ⟨c0, c1, c2, c3, -⟩ := quad h.blk
  obtain ⟨b0, b1, b2, -⟩ := tri hb
  exact ⟨c3, b0, b1, b2⟩
theorem yrank_at {w : World} {tb g : Nat} {T : Tr En Tl} {Ls : List En} (k : ByteArray) {q : Int} (h : TreeE w tb (jvE g) T) (hH : Hol T Ls) (hl : Ls.length ≤ 1000000) (hq : (belE k Ls : Int) = q) :
    Calls Tryd.prog 98 #[.pointer (some ⟨tb, 0, none⟩), .string k] w fun e w' => e = .returned (.int .i64 q) ∧ Below w.heap.size w w' := by
  have h1 := yrankE k h hH.gd (by omega)
  rw [hH.lower, hq] at h1
  exact h1
set_option maxHeartbeats 3200000 in
set_option maxRecDepth 100000 in
theorem srowsO (lo hi : ByteArray) {Ls : List En} {w : World} {sb g tb : Nat} {nd ck : Int} {T : Tr En Tl} {n : Nat} (h : IsSt w sb g tb nd ck T n) (hH : Hol T Ls) (hl : Ls.length ≤ 1000000) :
    Calls Tryd.prog 80 #[.pointer (some ⟨sb, 0, none⟩), .agg #[.string lo, .string hi, .bool true]] w fun r w' => r = .returned (.tuple #[.int .i64 (belE lo Ls : Int), .int .i64 (endE hi true Ls : Int)]) ∧ Below w.heap.size w w' := by
  obtain ⟨a, ha⟩ : ∃ a : Int, (belE lo Ls : Int) = a := ⟨_, rfl⟩
  obtain ⟨b, hb⟩ : ∃ b : Int, (endE hi true Ls : Int) = b := ⟨_, rfl⟩
  have H := aside (h.alloc (.cells #[.string lo, .string hi, .bool true] 51))
  have G := aside (heap_alloc_new w (.cells #[.string lo, .string hi, .bool true] 51))
  have B0 := aside (bnew w (.cells #[.string lo, .string hi, .bool true] 51))
  have C1 := aside (fun (W : World) (h : IsSt W sb g tb nd ck T n) => yrank_at lo h.tree hH hl ha)
  have C2 := aside (fun (W : World) (h : IsSt W sb g tb nd ck T n) => slen h)
  rw [show (T.cnt : Int) = b from by rw [hH.cnt, ← hb]; rfl] at C2
  rw [ha, hb]
  clear h hH hl ha hb
  go_enter Tryd.func80, Tryd.ntmps80
  obtain ⟨-, -, q2, -⟩ := tri G.out
  go_wp2_with fail
  clear q2
  generalize w.alloc (.cells #[.string lo, .string hi, .bool true] 51) = V at *
  refine wp_region_held_drew (S := fun X => X.cell? ⟨sb, 3, none⟩ = some (.pointer (some ⟨tb, 0, none⟩)) ∧ X.cell? ⟨w.heap.size, 0, none⟩ = some (.string lo) ∧ X.cell? ⟨w.heap.size, 1, none⟩ = some (.string hi) ∧ X.cell? ⟨w.heap.size, 2, none⟩ = some (.bool true)) (by kernel_rfl) (held_rows H.out.drew G.out) (fun hHeld => ?_)
  refine wpAnyH_take (i := 0) (v := ?_) rfl (by kernel_rfl) (by kernel_rfl) (by kernel_rfl) (fun _ _ _ h => h) (Or.inl ⟨by rfl, ?_⟩) (by assumption) ?_
  rotate_left
  · intro w hSw
    go_simp
    try with_reducible rfl
  simp only [Act.put, List.getElem_toArray, List.getElem_cons_zero, List.setIfInBounds_toArray, List.set_cons_zero, List.set_cons_succ]
  refine wpAnyH_take (i := 1) (v := ?_) rfl (by kernel_rfl) (by kernel_rfl) (by kernel_rfl) (fun _ _ _ h => h) (Or.inl ⟨by rfl, ?_⟩) (by assumption) ?_
  rotate_left
  · intro w hSw
    go_simp
    try with_reducible rfl
  simp only [Act.put, List.getElem_toArray, List.getElem_cons_zero, List.getElem_cons_succ, List.setIfInBounds_toArray, List.set_cons_zero, List.set_cons_succ]
  refine wpAnyH_take (i := 2) (v := ?_) rfl (by kernel_rfl) (by kernel_rfl) (by kernel_rfl) (fun _ _ _ h => h) (Or.inl ⟨by rfl, ?_⟩) (by assumption) ?_
  rotate_left
  · intro w hSw
    go_simp
    try with_reducible rfl
  simp only [Act.put, List.getElem_toArray, List.getElem_cons_zero, List.getElem_cons_succ, List.setIfInBounds_toArray, List.set_cons_zero, List.set_cons_succ]
  refine wpAnyH_take (i := 3) (v := ?_) rfl (by kernel_rfl) (by kernel_rfl) (by kernel_rfl) (fun _ _ _ h => h) (Or.inl ⟨by rfl, ?_⟩) (by assumption) ?_
  rotate_left
  · intro w hSw
    go_simp
    try with_reducible rfl
  simp only [Act.put, List.getElem_toArray, List.getElem_cons_zero, List.getElem_cons_succ, List.setIfInBounds_toArray, List.set_cons_zero, List.set_cons_succ]
  refine wpAnyH_take (i := 4) (v := ?_) rfl (by kernel_rfl) (by kernel_rfl) (by kernel_rfl) (fun _ _ _ h => h) (Or.inl ⟨by rfl, ?_⟩) (by assumption) ?_
  rotate_left
  · intro w hSw
    go_simp
    try with_reducible rfl
  simp only [Act.put, List.getElem_toArray, List.getElem_cons_zero, List.getElem_cons_succ, List.setIfInBounds_toArray, List.set_cons_zero, List.set_cons_succ]
  refine wpAnyH_take (i := 5) (v := ?_) rfl (by kernel_rfl) (by kernel_rfl) (by kernel_rfl) (fun _ _ _ h => h) (Or.inl ⟨by rfl, ?_⟩) (by assumption) ?_
  rotate_left
  · intro w hSw
    go_simp
    try with_reducible rfl
  simp only [Act.put, List.getElem_toArray, List.getElem_cons_zero, List.getElem_cons_succ, List.setIfInBounds_toArray, List.set_cons_zero, List.set_cons_succ]
  refine wpAnyH_take (i := 7) (v := ?_) rfl (by kernel_rfl) (by kernel_rfl) (by kernel_rfl) (fun _ _ _ h => h) (Or.inl ⟨by rfl, ?_⟩) (by assumption) ?_
  rotate_left
  · intro w hSw
    go_simp
    try with_reducible rfl
  simp only [Act.put, List.getElem_toArray, List.getElem_cons_zero, List.getElem_cons_succ, List.setIfInBounds_toArray, List.set_cons_zero, List.set_cons_succ]
  refine wpAnyH_ready (rs := [6]) (by kernel_rfl) (by simp) ?_
  refine AllReadyH.cons rfl (fun K hK => ?_) AllReadyH.nil
  go_simp
  refine (C1.out _ H.out.drew).mono ?_
  rintro e w9 ⟨rfl, bb⟩
  refine hK.out _ _ (held_rows (H.out.drew.below bb) (blk_on (show V.drew.heap[w.heap.size]? = some _ from G.out) bb)) (fun hHeld => ?_)
  clear hK K 
  have H1 := aside (H.out.drew.below bb)
  have G1 := aside (blk_on (show V.drew.heap[w.heap.size]? = some _ from G.out) bb)
  have B1 := aside (bthen B0.out.drew bb)
  clear bb
  refine wpAnyH_ready (rs := [8]) (by kernel_rfl) (by simp) ?_
  refine AllReadyH.cons rfl (fun K hK => ?_) AllReadyH.nil
  go_simp
  refine (C2.out _ H1.out).mono ?_
  rintro e w9 ⟨rfl, rfl⟩
  refine hK.out _ _ (hHeld) (fun hHeld => ?_)
  clear hK K 
  refine wpAnyH_take (i := 9) (v := ?_) rfl (by kernel_rfl) (by kernel_rfl) (by kernel_rfl) (fun _ _ _ h => h) (Or.inl ⟨by rfl, ?_⟩) (by assumption) ?_
  rotate_left
  · intro w hSw
    go_simp
    try with_reducible rfl
  simp only [Act.put, List.getElem_toArray, List.getElem_cons_zero, List.getElem_cons_succ, List.setIfInBounds_toArray, List.set_cons_zero, List.set_cons_succ]
  refine wpAnyH_take (i := 10) (v := ?_) rfl (by kernel_rfl) (by kernel_rfl) (by kernel_rfl) (fun _ _ _ h => h) (Or.inl ⟨by rfl, ?_⟩) (by assumption) ?_
  rotate_left
  · intro w hSw
    go_simp
    try with_reducible rfl
  simp only [Act.put, List.getElem_toArray, List.getElem_cons_zero, List.getElem_cons_succ, List.setIfInBounds_toArray, List.set_cons_zero, List.set_cons_succ]
  refine wpAnyH_done (by kernel_rfl) ?_ _
  go_wp2
  refine bodyPost_ret (v := .tuple #[.int .i64 a, .int .i64 b]) (by simp [results, Tryd.results80, go_sem]) rfl ⟨rfl, B1.out⟩
set_option maxHeartbeats 3200000 in
set_option maxRecDepth 100000 in
theorem srowsC (lo hi : ByteArray) {Ls : List En} {w : World} {sb g tb : Nat} {nd ck : Int} {T : Tr En Tl} {n : Nat} (h : IsSt w sb g tb nd ck T n) (hH : Hol T Ls) (hl : Ls.length ≤ 1000000) :
    Calls Tryd.prog 80 #[.pointer (some ⟨sb, 0, none⟩), .agg #[.string lo, .string hi, .bool false]] w fun r w' => r = .returned (.tuple #[.int .i64 (belE lo Ls : Int), .int .i64 (endE hi false Ls : Int)]) ∧ Below w.heap.size w w' := by
  obtain ⟨a, ha⟩ : ∃ a : Int, (belE lo Ls : Int) = a := ⟨_, rfl⟩
  obtain ⟨b, hb⟩ : ∃ b : Int, (endE hi false Ls : Int) = b := ⟨_, rfl⟩
  have H := aside (h.alloc (.cells #[.string lo, .string hi, .bool false] 51))
  have G := aside (heap_alloc_new w (.cells #[.string lo, .string hi, .bool false] 51))
  have B0 := aside (bnew w (.cells #[.string lo, .string hi, .bool false] 51))
  have C1 := aside (fun (W : World) (h : IsSt W sb g tb nd ck T n) => yrank_at lo h.tree hH hl ha)
  have C2 := aside (fun (W : World) (h : IsSt W sb g tb nd ck T n) => yrank_at hi h.tree hH hl (show (belE hi Ls : Int) = b from hb))
  rw [ha, hb]
  clear h hH hl ha hb
  go_enter Tryd.func80, Tryd.ntmps80
  obtain ⟨-, -, q2, -⟩ := tri G.out
  go_wp2_with fail
  clear q2
  generalize w.alloc (.cells #[.string lo, .string hi, .bool false] 51) = V at *
  refine wp_region_held_drew (S := fun X => X.cell? ⟨sb, 3, none⟩ = some (.pointer (some ⟨tb, 0, none⟩)) ∧ X.cell? ⟨w.heap.size, 0, none⟩ = some (.string lo) ∧ X.cell? ⟨w.heap.size, 1, none⟩ = some (.string hi) ∧ X.cell? ⟨w.heap.size, 2, none⟩ = some (.bool false)) (by kernel_rfl) (held_rows H.out.drew G.out) (fun hHeld => ?_)
  refine wpAnyH_take (i := 0) (v := ?_) rfl (by kernel_rfl) (by kernel_rfl) (by kernel_rfl) (fun _ _ _ h => h) (Or.inl ⟨by rfl, ?_⟩) (by assumption) ?_
  rotate_left
  · intro w hSw
    go_simp
    try with_reducible rfl
  simp only [Act.put, List.getElem_toArray, List.getElem_cons_zero, List.setIfInBounds_toArray, List.set_cons_zero, List.set_cons_succ]
  refine wpAnyH_take (i := 1) (v := ?_) rfl (by kernel_rfl) (by kernel_rfl) (by kernel_rfl) (fun _ _ _ h => h) (Or.inl ⟨by rfl, ?_⟩) (by assumption) ?_
  rotate_left
  · intro w hSw
    go_simp
    try with_reducible rfl
  simp only [Act.put, List.getElem_toArray, List.getElem_cons_zero, List.getElem_cons_succ, List.setIfInBounds_toArray, List.set_cons_zero, List.set_cons_succ]
  refine wpAnyH_take (i := 2) (v := ?_) rfl (by kernel_rfl) (by kernel_rfl) (by kernel_rfl) (fun _ _ _ h => h) (Or.inl ⟨by rfl, ?_⟩) (by assumption) ?_
  rotate_left
  · intro w hSw
    go_simp
    try with_reducible rfl
  simp only [Act.put, List.getElem_toArray, List.getElem_cons_zero, List.getElem_cons_succ, List.setIfInBounds_toArray, List.set_cons_zero, List.set_cons_succ]
  refine wpAnyH_take (i := 3) (v := ?_) rfl (by kernel_rfl) (by kernel_rfl) (by kernel_rfl) (fun _ _ _ h => h) (Or.inl ⟨by rfl, ?_⟩) (by assumption) ?_
  rotate_left
  · intro w hSw
    go_simp
    try with_reducible rfl
  simp only [Act.put, List.getElem_toArray, List.getElem_cons_zero, List.getElem_cons_succ, List.setIfInBounds_toArray, List.set_cons_zero, List.set_cons_succ]
  refine wpAnyH_take (i := 4) (v := ?_) rfl (by kernel_rfl) (by kernel_rfl) (by kernel_rfl) (fun _ _ _ h => h) (Or.inl ⟨by rfl, ?_⟩) (by assumption) ?_
  rotate_left
  · intro w hSw
    go_simp
    try with_reducible rfl
  simp only [Act.put, List.getElem_toArray, List.getElem_cons_zero, List.getElem_cons_succ, List.setIfInBounds_toArray, List.set_cons_zero, List.set_cons_succ]
  refine wpAnyH_take (i := 5) (v := ?_) rfl (by kernel_rfl) (by kernel_rfl) (by kernel_rfl) (fun _ _ _ h => h) (Or.inl ⟨by rfl, ?_⟩) (by assumption) ?_
  rotate_left
  · intro w hSw
    go_simp
    try with_reducible rfl
  simp only [Act.put, List.getElem_toArray, List.getElem_cons_zero, List.getElem_cons_succ, List.setIfInBounds_toArray, List.set_cons_zero, List.set_cons_succ]
  refine wpAnyH_take (i := 7) (v := ?_) rfl (by kernel_rfl) (by kernel_rfl) (by kernel_rfl) (fun _ _ _ h => h) (Or.inl ⟨by rfl, ?_⟩) (by assumption) ?_
  rotate_left
  · intro w hSw
    go_simp
    try with_reducible rfl
  simp only [Act.put, List.getElem_toArray, List.getElem_cons_zero, List.getElem_cons_succ, List.setIfInBounds_toArray, List.set_cons_zero, List.set_cons_succ]
  refine wpAnyH_take (i := 8) (v := ?_) rfl (by kernel_rfl) (by kernel_rfl) (by kernel_rfl) (fun _ _ _ h => h) (Or.inl ⟨by rfl, ?_⟩) (by assumption) ?_
  rotate_left
  · intro w hSw
    go_simp
    try with_reducible rfl
  simp only [Act.put, List.getElem_toArray, List.getElem_cons_zero, List.getElem_cons_succ, List.setIfInBounds_toArray, List.set_cons_zero, List.set_cons_succ]
  refine wpAnyH_take (i := 9) (v := ?_) rfl (by kernel_rfl) (by kernel_rfl) (by kernel_rfl) (fun _ _ _ h => h) (Or.inl ⟨by rfl, ?_⟩) (by assumption) ?_
  rotate_left
  · intro w hSw
    go_simp
    try with_reducible rfl
  simp only [Act.put, List.getElem_toArray, List.getElem_cons_zero, List.getElem_cons_succ, List.setIfInBounds_toArray, List.set_cons_zero, List.set_cons_succ]
  refine wpAnyH_take (i := 10) (v := ?_) rfl (by kernel_rfl) (by kernel_rfl) (by kernel_rfl) (fun _ _ _ h => h) (Or.inl ⟨by rfl, ?_⟩) (by assumption) ?_
  rotate_left
  · intro w hSw
    go_simp
    try with_reducible rfl
  simp only [Act.put, List.getElem_toArray, List.getElem_cons_zero, List.getElem_cons_succ, List.setIfInBounds_toArray, List.set_cons_zero, List.set_cons_succ]
  refine wpAnyH_take (i := 11) (v := ?_) rfl (by kernel_rfl) (by kernel_rfl) (by kernel_rfl) (fun _ _ _ h => h) (Or.inl ⟨by rfl, ?_⟩) (by assumption) ?_
  rotate_left
  · intro w hSw
    go_simp
    try with_reducible rfl
  simp only [Act.put, List.getElem_toArray, List.getElem_cons_zero, List.getElem_cons_succ, List.setIfInBounds_toArray, List.set_cons_zero, List.set_cons_succ]
  refine wpAnyH_take (i := 12) (v := ?_) rfl (by kernel_rfl) (by kernel_rfl) (by kernel_rfl) (fun _ _ _ h => h) (Or.inl ⟨by rfl, ?_⟩) (by assumption) ?_
  rotate_left
  · intro w hSw
    go_simp
    try with_reducible rfl
  simp only [Act.put, List.getElem_toArray, List.getElem_cons_zero, List.getElem_cons_succ, List.setIfInBounds_toArray, List.set_cons_zero, List.set_cons_succ]
  refine wpAnyH_ready (rs := [6]) (by kernel_rfl) (by simp) ?_
  refine AllReadyH.cons rfl (fun K hK => ?_) AllReadyH.nil
  go_simp
  refine (C1.out _ H.out.drew).mono ?_
  rintro e w9 ⟨rfl, bb⟩
  refine hK.out _ _ (held_rows (H.out.drew.below bb) (blk_on (show V.drew.heap[w.heap.size]? = some _ from G.out) bb)) (fun hHeld => ?_)
  clear hK K 
  have H1 := aside (H.out.drew.below bb)
  have G1 := aside (blk_on (show V.drew.heap[w.heap.size]? = some _ from G.out) bb)
  have B1 := aside (bthen B0.out.drew bb)
  clear bb
  refine wpAnyH_ready (rs := [13]) (by kernel_rfl) (by simp) ?_
  refine AllReadyH.cons rfl (fun K hK => ?_) AllReadyH.nil
  go_simp
  refine (C2.out _ H1.out).mono ?_
  rintro e w8 ⟨rfl, bb⟩
  refine hK.out _ _ (held_rows (H1.out.below bb) (blk_on G1.out bb)) (fun hHeld => ?_)
  clear hK K 
  have B2 := aside (bthen B1.out bb)
  clear bb
  refine wpAnyH_take (i := 14) (v := ?_) rfl (by kernel_rfl) (by kernel_rfl) (by kernel_rfl) (fun _ _ _ h => h) (Or.inl ⟨by rfl, ?_⟩) (by assumption) ?_
  rotate_left
  · intro w hSw
    go_simp
    try with_reducible rfl
  simp only [Act.put, List.getElem_toArray, List.getElem_cons_zero, List.getElem_cons_succ, List.setIfInBounds_toArray, List.set_cons_zero, List.set_cons_succ]
  refine wpAnyH_take (i := 15) (v := ?_) rfl (by kernel_rfl) (by kernel_rfl) (by kernel_rfl) (fun _ _ _ h => h) (Or.inl ⟨by rfl, ?_⟩) (by assumption) ?_
  rotate_left
  · intro w hSw
    go_simp
    try with_reducible rfl
  simp only [Act.put, List.getElem_toArray, List.getElem_cons_zero, List.getElem_cons_succ, List.setIfInBounds_toArray, List.set_cons_zero, List.set_cons_succ]
  refine wpAnyH_done (by kernel_rfl) ?_ _
  go_wp2
  refine bodyPost_ret (v := .tuple #[.int .i64 a, .int .i64 b]) (by simp [results, Tryd.results80, go_sem]) rfl ⟨rfl, B2.out⟩
theorem srows (lo hi : ByteArray) (op : Bool) {Ls : List En} {w : World} {sb g tb : Nat} {nd ck : Int} {T : Tr En Tl} {n : Nat} (h : IsSt w sb g tb nd ck T n) (hH : Hol T Ls) (hl : Ls.length ≤ 1000000) :
    Calls Tryd.prog 80 #[.pointer (some ⟨sb, 0, none⟩), .agg #[.string lo, .string hi, .bool op]] w fun r w' => r = .returned (.tuple #[.int .i64 (belE lo Ls : Int), .int .i64 (endE hi op Ls : Int)]) ∧ Below w.heap.size w w' := by
  cases op
  · exact srowsC lo hi h hH hl
  · exact srowsO lo hi h hH hl
theorem chk_may {lo hi : ByteArray} {op : Bool} (h : Rg.chk ⟨lo, hi, op⟩ = 0) : op = true ∨ kLt hi lo = false := by
  cases op with
  | true => exact .inl rfl
  | false =>
    refine .inr ?_
    unfold Rg.chk at h
    split at h
    · cases h
    · split at h
      · cases h
      · rename_i h2
        cases h3 : Op.bytesLess lo.toList hi.toList
        · cases h4 : (lo.toList == hi.toList)
          · simp [h3, h4] at h2
          · rw [toList_inj (beq_iff_eq.1 h4)]
            exact kLt_irrefl _
        · exact kLt_asymm h3
end Go.Proofs.YtlbkcndmljlnmaaDoor
namespace Go.Proofs.YtlbkcndmljlnmaaDoor
open Go.RowKit
theorem nx_bad {clock node : Int} (h : node < 0 ∨ 8 ≤ node ∨ clock < 0 ∨ 1099511627776 < clock) : Vs.nx clock node = (0, 0, 30) := by unfold Vs.nx; rw [if_pos h]
theorem nx_worn {clock node : Int} (h : ¬ (node < 0 ∨ 8 ≤ node ∨ clock < 0 ∨ 1099511627776 < clock)) (h2 : clock = 1099511627776) : Vs.nx clock node = (0, 0, 33) := by unfold Vs.nx; rw [if_neg h, if_pos h2]
theorem nx_ok {clock node : Int} (h : ¬ (node < 0 ∨ 8 ≤ node ∨ clock < 0 ∨ 1099511627776 < clock)) (h2 : clock ≠ 1099511627776) : Vs.nx clock node = (clock + 1, node, 0) := by unfold Vs.nx; rw [if_neg h, if_neg h2]
theorem ret_nx {r s : Int × Int × Int} (h : r = s) : Ending.returned (Vs.nxV r) = .returned (Vs.nxV s) := by rw [h]
set_option maxHeartbeats 1600000 in
theorem next_any (clock node : Int) (w : World) : Calls Tryd.prog 78 #[.int .i64 clock, .int .i64 node] w fun e w' => e = .returned (Vs.nxV (Vs.nx clock node)) ∧ Below w.heap.size w w' := by
  by_cases h3 : node < 0
  · go_enter Tryd.func78, Tryd.ntmps78
    go_wp2_with (go_at_call 86; refine (isNode_at (node_no1 h3) _).mono ?_; rintro e w1 ⟨rfl, rfl⟩)
    refine bodyPost_ret (v := .tuple #[.agg #[.int .i64 0, .int .i64 0], .int .i64 30]) (by simp [results, Tryd.results78, go_sem]) rfl ⟨ret_nx (nx_bad (by omega)).symm, ?_⟩
    exact bnew w _
  by_cases h4 : 8 ≤ node
  · go_enter Tryd.func78, Tryd.ntmps78
    go_wp2_with (go_at_call 86; refine (isNode_at (node_no2 h4) _).mono ?_; rintro e w1 ⟨rfl, rfl⟩)
    refine bodyPost_ret (v := .tuple #[.agg #[.int .i64 0, .int .i64 0], .int .i64 30]) (by simp [results, Tryd.results78, go_sem]) rfl ⟨ret_nx (nx_bad (by omega)).symm, ?_⟩
    exact bnew w _
  have hN := node_yes h3 h4
  by_cases h1 : clock < 0
  · go_enter Tryd.func78, Tryd.ntmps78
    go_wp2_with (go_at_call 86; refine (isNode_at hN _).mono ?_; rintro e w1 ⟨rfl, rfl⟩)
    refine bodyPost_ret (v := .tuple #[.agg #[.int .i64 0, .int .i64 0], .int .i64 30]) (by simp [results, Tryd.results78, go_sem]) rfl ⟨ret_nx (nx_bad (by omega)).symm, ?_⟩
    exact bnew w _
  by_cases h2 : 1099511627776 < clock
  · go_enter Tryd.func78, Tryd.ntmps78
    go_wp2_with (go_at_call 86; refine (isNode_at hN _).mono ?_; rintro e w1 ⟨rfl, rfl⟩)
    refine bodyPost_ret (v := .tuple #[.agg #[.int .i64 0, .int .i64 0], .int .i64 30]) (by simp [results, Tryd.results78, go_sem]) rfl ⟨ret_nx (nx_bad (by omega)).symm, ?_⟩
    exact bnew w _
  by_cases h5 : clock = 1099511627776
  · subst h5
    go_enter Tryd.func78, Tryd.ntmps78
    go_wp2_with (go_at_call 86; refine (isNode_at hN _).mono ?_; rintro e w1 ⟨rfl, rfl⟩)
    refine bodyPost_ret (v := .tuple #[.agg #[.int .i64 0, .int .i64 0], .int .i64 33]) (by simp [results, Tryd.results78, go_sem]) rfl ⟨ret_nx (nx_worn (by omega) rfl).symm, ?_⟩
    exact bnew w _
  · have h6 : clock ≤ 1099511627776 := by omega
    have h7 : 0 ≤ clock := by omega
    go_enter Tryd.func78, Tryd.ntmps78
    go_wp2_with (go_at_call 86; refine (isNode_at hN _).mono ?_; rintro e w1 ⟨rfl, rfl⟩)
    refine bodyPost_ret (v := .tuple #[.agg #[.int .i64 (clock + 1), .int .i64 node], .int .i64 0]) (by simp [results, Tryd.results78, go_sem]) rfl ⟨ret_nx (nx_ok (by omega) h5).symm, ?_⟩
    exact bnew w _
/-- Next, by its three numbers. -/
theorem next_at {clock node c n e : Int} (h : Vs.nx clock node = (c, n, e)) (w : World) : Calls Tryd.prog 78 #[.int .i64 clock, .int .i64 node] w fun r w' => r = .returned (.tuple #[.agg #[.int .i64 c, .int .i64 n], .int .i64 e]) ∧ Below w.heap.size w w' := by
  have := next_any clock node w
  rw [h] at this
  exact this
/-- The ways of Next. -/
theorem nx_cases (clock node : Int) : Vs.nx clock node = (0, 0, 30) ∨ Vs.nx clock node = (0, 0, 33) ∨ (Vs.nx clock node = (clock + 1, node, 0) ∧ 0 ≤ clock ∧ clock < 1099511627776 ∧ 0 ≤ node ∧ node < 8) := by
  by_cases h : node < 0 ∨ 8 ≤ node ∨ clock < 0 ∨ 1099511627776 < clock
  · exact .inl (nx_bad h)
  · by_cases h2 : clock = 1099511627776
    · exact .inr (.inl (nx_worn h h2))
    · exact .inr (.inr ⟨nx_ok h h2, by omega, by omega, by omega, by omega⟩)
end Go.Proofs.YtlbkcndmljlnmaaDoor

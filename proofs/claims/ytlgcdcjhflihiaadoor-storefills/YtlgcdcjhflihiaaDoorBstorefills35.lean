/-
  Clone: a store of its own that holds the same.
-/
import Derived.Test.YtlgcdcjhflihiaaDoorBstorefills34
namespace Go.Proofs.YtlgcdcjhflihiaaDoor
open Go.RowKit Go.Shelf
set_option linter.unusedVariables false

attribute [local go_sem] Oper.semAt_some

/-- What is held behind rows that were held one by one. -/
def clL (pre : List (Rw En Tl)) : List En := pre.foldl (fun l x => insE x.v l) []
theorem clL_snoc (pre : List (Rw En Tl)) (x : Rw En Tl) : clL (pre ++ [x]) = insE x.v (clL pre) := by simp [clL]
theorem insE_last (e : En) : ∀ l : List En, (∀ y ∈ l, kLt y.k e.k = true) → insE e l = l ++ [e]
  | [], _ => rfl
  | y :: l, h => by
    have h1 := h y List.mem_cons_self
    unfold insE
    rw [if_neg (by rw [kLt_asymm h1]; simp), if_pos h1, insE_last e l (fun z hz => h z (List.mem_cons_of_mem _ hz))]
    rfl
theorem clL_from : ∀ (m l : List En), RisesE (l ++ m) → (m.map rwE).foldl (fun l x => insE x.v l) l = l ++ m
  | [], l, _ => by simp
  | e :: m, l, h => by
    have h1 : insE e l = l ++ [e] := insE_last e l (fun y hy => by
      unfold RisesE at h
      rw [List.pairwise_append] at h
      exact h.2.2 y hy e List.mem_cons_self)
    simp only [List.map_cons, List.foldl_cons]
    rw [show (rwE e).v = e from rfl, h1, clL_from m (l ++ [e]) (by simpa using h)]
    simp
theorem clL_rows {T : Tr En Tl} {Ls : List En} (h : Hol T Ls) : clL T.rows = Ls := by
  unfold clL
  rw [h.rows, clL_from Ls [] (by simpa using h.rises)]
  rfl
theorem insE_most (e : En) : ∀ l : List En, (insE e l).length ≤ l.length + 1
  | [] => by simp [insE]
  | y :: l => by
    have ih := insE_most e l
    unfold insE
    split
    · simp
    · split
      · simp only [List.length_cons]; omega
      · simp
theorem clL_len (pre : List (Rw En Tl)) : (clL pre).length ≤ pre.length := by
  have : ∀ (pre : List (Rw En Tl)) (l : List En), (pre.foldl (fun l x => insE x.v l) l).length ≤ l.length + pre.length := by
    intro pre
    induction pre with
    | nil => intro l; simp
    | cons x pre ih =>
      intro l
      have h1 := ih (insE x.v l)
      have h2 := insE_most x.v l
      simp only [List.foldl_cons, List.length_cons]
      omega
  have h := this pre []
  simp only [List.length_nil, Nat.zero_add] at h
  exact h

theorem IsSt.own {A B : World} {sb g tb : Nat} {nd ck : Int} {T : Tr En Tl} {n : Nat} {row : Option Nat} (h : IsSt A sb g tb nd ck T n) (hg : A.grownBy B row) (hr : ∀ r, row = some r → ∃ o : Obj, A.heap[r]? = some o ∧ o.isCells = false) : IsSt B sb g tb nd ck T n := by
  obtain ⟨p, ht, hT⟩ := h.tree
  exact ⟨cells_own h.blk hg hr, fun b e => cells_own (h.cnt b e) hg hr, ⟨p, cells_own ht hg hr, hT.on (fun _ _ e => cells_own e hg hr)⟩⟩
theorem IsSt.from {X X' : World} {sb g tb : Nat} {nd ck : Int} {T : Tr En Tl} {n : Nat} (h : IsSt X sb g tb nd ck T n) (k : Keeps (Of sb g tb) X X') (B : Nat) : KeepsFrom B X X' := by
  obtain ⟨p, ht, hT⟩ := h.tree
  refine ⟨k.size, fun i o _ hi ho => ?_⟩
  refine (k.block i (Array.getElem?_eq_some_iff.1 hi).1 ?_).trans hi
  rintro (rfl | rfl | rfl)
  · rw [h.blk] at hi; injection hi with hi; subst hi; cases ho
  · unfold TObjE at ht; rw [ht] at hi; injection hi with hi; subst hi; cases ho
  · rw [h.cnt _ rfl] at hi; injection hi with hi; subst hi; cases ho

/-- Between two rounds: the store that grows. -/
structure CI (w : World) (sc gc tc bx : Nat) (nd ck : Int) (pre : List (Rw En Tl)) (X : World) : Prop where
  st : ∃ T n, IsSt X sc gc tc nd ck T n ∧ Hol T (clL pre)
  box : X.heap[bx]? = some (.cells #[.pointer (some ⟨sc, 0, none⟩)] 23 (0, 0))
  below : Below w.heap.size w X
theorem CI.own {w A B : World} {sc gc tc bx C : Nat} {nd ck : Int} {pre : List (Rw En Tl)} {row : Option Nat} (hC : w.heap.size ≤ C) (h : CI w sc gc tc bx nd ck pre A) (hg : A.grownBy B row) (hr : ∀ r, row = some r → C ≤ r ∧ ∃ o : Obj, A.heap[r]? = some o ∧ o.isCells = false) : CI w sc gc tc bx nd ck pre B := by
  obtain ⟨⟨T, n, h1, h2⟩, h3, h4⟩ := h
  have hr' : ∀ r, row = some r → ∃ o : Obj, A.heap[r]? = some o ∧ o.isCells = false := fun r e => (hr r e).2
  exact ⟨⟨T, n, h1.own hg hr', h2⟩, cells_own h3 hg hr', ownFrom_below (β := Unit) (Nat.le_refl w.heap.size) hC () A B row h4 hg hr⟩

theorem st_two {X : World} {sb g tb : Nat} {nd ck : Int} {T : Tr En Tl} {n : Nat} (h : IsSt X sb g tb nd ck T n) : X.cell? ⟨sb, 0, none⟩ = some (.int .i64 nd) ∧ X.cell? ⟨sb, 1, none⟩ = some (.int .i64 ck) := by
  obtain ⟨c0, c1, -, -, -⟩ := quad h.blk
  exact ⟨c0, c1⟩

theorem cl_begin {w V : World} {sc gc tc bx : Nat} {nd ck : Int} (h : IsSt V sc gc tc nd ck .nil 0) (hb : V.heap[bx]? = some (.cells #[.pointer none] 23 (0, 0))) (b : Below w.heap.size w V) (hx : w.heap.size ≤ bx) : CI w sc gc tc bx nd ck [] (V.setCell ⟨bx, 0, none⟩ (.pointer (some ⟨sc, 0, none⟩))) := by
  have k : Keeps (fun i => i = bx) V (V.setCell ⟨bx, 0, none⟩ (.pointer (some ⟨sc, 0, none⟩))) := (Keeps.refl (fun i => i = bx) V).setCell (p := ⟨bx, 0, none⟩) (fun _ => rfl) _
  have hn := h.not hb (by decide) (by decide) (by decide)
  obtain ⟨p, ht, hT⟩ := h.tree
  refine ⟨⟨.nil, 0, ⟨blk_keep h.blk k (fun e => hn (.inl e.symm)), fun b' e => ?_, ⟨p, blk_keep ht k (fun e => hn (.inr (.inl e.symm))), ?_⟩⟩, Hol.nil⟩, by rw [heap_setCell_same V bx 0 _ _ _ hb]; rfl, b.setCell (p := ⟨bx, 0, none⟩) hx _⟩
  · injection e with e; subst e; exact blk_keep (h.cnt _ rfl) k (fun e => hn (.inr (.inr e.symm)))
  · exact hT.on ((Stay.refl _ V).setCell _ (fun cs e => by dsimp only at e; rw [hb] at e; simp at e))

set_option maxHeartbeats 8000000 in
set_option maxRecDepth 100000 in
theorem sclone {Ls : List En} {w : World} {sb g tb : Nat} {nd ck : Int} {T : Tr En Tl} {n : Nat} (h : IsSt w sb g tb nd ck T n) (L : Lanes w) (hH : Hol T Ls) (hl : Ls.length ≤ 1000000) (hky : ∀ e ∈ Ls, e.k.size ≤ 140737488351232 ∧ e.c ≤ ck) :
    Calls Tryd.prog 23 #[.pointer (some ⟨sb, 0, none⟩)] w fun r w' => Below w.heap.size w w' ∧ ∃ sc gc tc, r = .returned (.pointer (some ⟨sc, 0, none⟩)) ∧ Sto w' sc gc tc nd ck Ls ∧ w.heap.size ≤ sc ∧ w.heap.size ≤ gc ∧ w.heap.size ≤ tc := by
  have H := aside h
  have LL := aside L
  have HH := aside hH
  have HLE := aside hl
  have HOK := aside (show ∀ x ∈ T.rows, x.v.k.size ≤ 140737488351232 ∧ x.v.c ≤ ck from fun x hx => by
    rw [hH.rows] at hx
    obtain ⟨e, he, rfl⟩ := List.mem_map.1 hx
    exact hky e he)
  have CE := aside (fun (W : World) => sempty nd ck W)
  clear h L hH hl hky
  refine (callsIn_wide (n := 5)).1 ?_
  refine callsIn_of_wp_marks Tryd.func23 rfl trivial ?_ rfl
  simp only [Tryd.ntmps23, List.size_toArray, List.length_cons, List.length_nil, Nat.reduceAdd, Nat.reduceSub, Array.replicate_succ, Array.replicate_zero, List.push_toArray, List.append_toArray, List.nil_append, List.cons_append]
  gi_wp2_with fail
  rename_i K hK0
  refine wpIn_mono (Q := Exit.then K (fun _ _ _ => False)) (wpIn_wide.2 ?_) (fun e a w h => by cases e <;> first | exact h | exact h.elim)
  have REST : Hid (∀ (sc gc tc bx : Nat) (t6 t7 t8 t9 t10 t11 t12 t13 t14 : Value) (V : World), CI w sc gc tc bx nd ck [] V → (w.heap.size ≤ sc ∧ w.heap.size ≤ gc ∧ w.heap.size ≤ tc) → K ⟨#[.pointer (some ⟨sb, 0, none⟩), undef, .pointer none, .pointer (some ⟨bx, 0, none⟩), undef, undef, t6, t7, t8, t9, t10, t11, t12, t13, t14, undef, undef, undef, undef, undef, undef, undef, undef, undef, undef, undef], []⟩ V) := by
    intro sc gc tc bx t6 t7 t8 t9 t10 t11 t12 t13 t14 V hci hsz
    refine hK0 _ _ ?_
    clear hK0 K
    have CI0 := aside hci
    have SZ := aside hsz
    have HV := aside (H.out.below hci.below)
    have CA := aside (fun (W : World) (b : Below V.heap.size V W) => yallE ((HV.out.below b).tree) (by rw [HH.out.cnt]; exact HLE.out) (Ok := fun x => x.v.k.size ≤ 140737488351232 ∧ x.v.c ≤ ck) HOK.out)
    obtain ⟨-, -, -, c3, -⟩ := quad HV.out.blk
    clear hci hsz
    gi_wp2_with fail
    refine ⟨trivial, ?_⟩
    refine (callsIn_wide.2 (CA.out _ (Below.refl _ _))).mono ?_
    rintro e V1 ⟨b1, lb, rfl, hs⟩
    have HS := aside hs
    have CI1 := aside (show CI w sc gc tc bx nd ck [] V1 from by
      obtain ⟨⟨T0, n0, h1, h2⟩, h3, h4⟩ := CI0.out
      exact ⟨⟨T0, n0, h1.below b1, h2⟩, blk_on h3 b1, bthen h4 b1⟩)
    have HVV := aside (show w.heap.size ≤ V1.heap.size from CI1.out.below.size)
    clear b1 hs CA c3 CI0 HV
    gi_wp2_with fail
    have ownI : OwnFrom V1.heap.size (fun (pre : List (Rw En Tl)) X => CI w sc gc tc bx nd ck pre X) := fun s A Y row hs hg hr => hs.own HVV.out hg hr
    refine rangeW rfl (enters_of Tryd.func67 (by kernel_rfl) rfl) HS.out KpA.t (fun W l o o' _ h ho => KpA.b W l o o' h ho) (Below.refl _ _) (fun _ => rfl)
      (fun (pre : List (Rw En Tl)) X => CI w sc gc tc bx nd ck pre X) (fun _ _ _ => False) ownI (fun _ _ _ _ _ h => h.elim) CI1.out
      (fun x a' X => ∃ eb : Nat, a' = ⟨#[.pointer (some ⟨sb, 0, none⟩), undef, .pointer none, .pointer (some ⟨bx, 0, none⟩), undef, .pointer (some ⟨eb, 0, none⟩), t6, t7, t8, t9, t10, t11, t12, t13, t14, .pointer (some ⟨sb, 0, none⟩), .pointer (some ⟨sb, 0, none⟩), .pointer (some ⟨sb, 3, none⟩), .pointer (some ⟨tb, 0, none⟩), .func (.func 67) #[] lb, .string x.k, .agg #[.string x.v.k, .int .i64 x.v.c, .int .i64 x.v.n, .string x.v.v, .bool x.v.d], undef, undef, undef, undef], []⟩ ∧ X.heap[eb]? = some (.cells #[.string x.v.k, .int .i64 x.v.c, .int .i64 x.v.n, .string x.v.v, .bool x.v.d] 39 (0, 0)))
      (fun x a' _ A Y row hs hg hr => by
        obtain ⟨eb, h1, h2⟩ := hs
        exact ⟨eb, h1, cells_own h2 hg (fun r e => (hr r e).2)⟩) ?assign ?body ?done ?stop
    case assign =>
      intro l' pre x X K hi hK
      dsimp only [encs2]
      gi_wp2
      refine hK _ _ ?_ ?_ ?_ ⟨_, rfl, heap_alloc_new X _⟩
      · exact KeepsFrom.of_grownBy (World.grownBy_alloc X _ none) (fun j e => by cases e)
      · exact (KpA.refl X).alloc _
      · exact ownI.alloc _ hi
    case body =>
      rintro l' pre ⟨xk, ⟨vk, vc, vn, vv, vd⟩, xs⟩ a' X hci ⟨eb, rfl, he⟩ hlen ⟨hk1, hk2⟩
      dsimp only at he hk1 hk2 ⊢
      obtain ⟨e0, e1, e2, e3, e4, -⟩ := penta he
      obtain ⟨T0, n0, hst, hol⟩ := hci.st
      have c0 := cell_one hci.box
      have hlr : T.rows.length = Ls.length := by rw [HH.out.rows, List.length_map]
      have hpl : (clL pre).length ≤ 1000000 := by have := clL_len pre; have := HLE.out; omega
      have CH := aside (shold ⟨vk, vc, vn, vv, vd⟩ hst (LL.out.keep hci.below) hol hpl hk1)
      have HST := aside hst
      have HOL := aside hol
      have HCI := aside hci
      have HC2 := aside (show ckm ck vc = ck from by unfold ckm; rw [if_neg (by omega)])
      have hsn := aside (clL_snoc pre ⟨xk, ⟨vk, vc, vn, vv, vd⟩, xs⟩)
      clear he hst hol hci hlen hk1 hk2 hlr hpl
      gi_wp2_with fail
      refine ⟨trivial, ?_⟩
      refine (CallsIn.inRound l' (callsIn_wide.2 CH.out)).mono ?_
      rintro e X3 ⟨rfl, hs3, k3⟩
      have KF := aside (HST.out.from k3 V1.heap.size)
      have KP := aside (show KpA X X3 from ⟨HST.out.stay k3 (by decide) (by decide) (by decide), HST.out.stay k3 (by decide) (by decide) (by decide)⟩)
      have NI := aside (show CI w sc gc tc bx nd ck (pre ++ [⟨xk, ⟨vk, vc, vn, vv, vd⟩, xs⟩]) X3 from by
        rw [show ckm ck (⟨vk, vc, vn, vv, vd⟩ : En).c = ck from HC2.out] at hs3
        refine ⟨⟨_, _, hs3, ?_⟩, ?_, ?_⟩
        · rw [hsn.out]; exact HOL.out.put ⟨vk, vc, vn, vv, vd⟩
        · exact blk_keep HCI.out.box k3 (HST.out.not HCI.out.box (by decide) (by decide) (by decide))
        · exact HCI.out.below.trans (k3.below HCI.out.below.size (fun i hi e => by have := SZ.out; rcases e with e | e | e <;> omega)))
      clear hs3 k3 e0 e1 e2 e3 e4 c0 CH
      gi_wp2
      exact ⟨KF.out, KP.out, NI.out⟩
    case done =>
      rintro D xs X hD rfl hci hK
      have c0 := cell_one hci.box
      have FO := aside (hci.own HVV.out (grownBy_putObj' X D (.deferred none)) (fun r e => by cases e; exact ⟨hD, _, hK, rfl⟩))
      have HS2 := aside (clL_rows HH.out)
      clear hci
      gi_wp2
      refine ⟨by simp, .inl ⟨_, _, rfl, run_takeDeferred hK, ?_⟩⟩
      refine ⟨.pointer (some ⟨sc, 0, none⟩), by simp [results, Tryd.f23, go_sem], FO.out.below, sc, gc, tc, rfl, ?_, SZ.out⟩
      obtain ⟨T1, n1, h1, h2⟩ := FO.out.st
      rw [HS2.out] at h2
      exact ⟨T1, n1, h1, h2⟩
    case stop =>
      rintro D c pre X hD _ h
      exact h.elim
  have B0 := aside ((Below.refl w.heap.size w).drew)
  refine wp_region_held_drew (S := fun X => X.cell? ⟨sb, 0, none⟩ = some (.int .i64 nd) ∧ X.cell? ⟨sb, 1, none⟩ = some (.int .i64 ck)) (by kernel_rfl) (st_two H.out.drew) (fun hHeld => ?_)
  refine wpAnyH_take (i := 0) (v := ?_) rfl (by kernel_rfl) (by kernel_rfl) (by kernel_rfl) (fun _ _ _ h => h) (Or.inl ⟨by rfl, ?_⟩) (by assumption) ?_
  rotate_left
  · intro w hSw
    go_simp
    try with_reducible rfl
  simp only [Act.put, List.getElem_toArray, List.getElem_cons_zero, List.setIfInBounds_toArray, List.set_cons_zero, List.set_cons_succ]
  refine wpAnyH_take (i := 1) (v := ?_) rfl (by kernel_rfl) (by kernel_rfl) (by kernel_rfl) (fun _ _ _ h => h) (Or.inl ⟨by rfl, ?_⟩) (by assumption) ?_
  rotate_left
  · intro w hSw
    go_simp
    try with_reducible rfl
  simp only [Act.put, List.getElem_toArray, List.getElem_cons_zero, List.getElem_cons_succ, List.setIfInBounds_toArray, List.set_cons_zero, List.set_cons_succ]
  refine wpAnyH_take (i := 2) (v := ?_) rfl (by kernel_rfl) (by kernel_rfl) (by kernel_rfl) (fun _ _ _ h => h) (Or.inl ⟨by rfl, ?_⟩) (by assumption) ?_
  rotate_left
  · intro w hSw
    go_simp
    try with_reducible rfl
  simp only [Act.put, List.getElem_toArray, List.getElem_cons_zero, List.getElem_cons_succ, List.setIfInBounds_toArray, List.set_cons_zero, List.set_cons_succ]
  refine wpAnyH_take (i := 3) (v := ?_) rfl (by kernel_rfl) (by kernel_rfl) (by kernel_rfl) (fun _ _ _ h => h) (Or.inl ⟨by rfl, ?_⟩) (by assumption) ?_
  rotate_left
  · intro w hSw
    go_simp
    try with_reducible rfl
  simp only [Act.put, List.getElem_toArray, List.getElem_cons_zero, List.getElem_cons_succ, List.setIfInBounds_toArray, List.set_cons_zero, List.set_cons_succ]
  refine wpAnyH_take (i := 4) (v := ?_) rfl (by kernel_rfl) (by kernel_rfl) (by kernel_rfl) (fun _ _ _ h => h) (Or.inl ⟨by rfl, ?_⟩) (by assumption) ?_
  rotate_left
  · intro w hSw
    go_simp
    try with_reducible rfl
  simp only [Act.put, List.getElem_toArray, List.getElem_cons_zero, List.getElem_cons_succ, List.setIfInBounds_toArray, List.set_cons_zero, List.set_cons_succ]
  refine wpAnyH_take (i := 5) (v := ?_) rfl (by kernel_rfl) (by kernel_rfl) (by kernel_rfl) (fun _ _ _ h => h) (Or.inl ⟨by rfl, ?_⟩) (by assumption) ?_
  rotate_left
  · intro w hSw
    go_simp
    try with_reducible rfl
  simp only [Act.put, List.getElem_toArray, List.getElem_cons_zero, List.getElem_cons_succ, List.setIfInBounds_toArray, List.set_cons_zero, List.set_cons_succ]
  refine wpAnyH_take (i := 6) (v := ?_) rfl (by kernel_rfl) (by kernel_rfl) (by kernel_rfl) (fun _ _ _ h => h) (Or.inl ⟨by rfl, ?_⟩) (by assumption) ?_
  rotate_left
  · intro w hSw
    go_simp
    try with_reducible rfl
  simp only [Act.put, List.getElem_toArray, List.getElem_cons_zero, List.getElem_cons_succ, List.setIfInBounds_toArray, List.set_cons_zero, List.set_cons_succ]
  refine wpAnyH_take (i := 7) (v := ?_) rfl (by kernel_rfl) (by kernel_rfl) (by kernel_rfl) (fun _ _ _ h => h) (Or.inl ⟨by rfl, ?_⟩) (by assumption) ?_
  rotate_left
  · intro w hSw
    go_simp
    try with_reducible rfl
  simp only [Act.put, List.getElem_toArray, List.getElem_cons_zero, List.getElem_cons_succ, List.setIfInBounds_toArray, List.set_cons_zero, List.set_cons_succ]
  refine wpAnyH_ready (rs := [8, 9]) (by kernel_rfl) (by simp) ?_
  refine AllReadyH.cons rfl (fun K1 hK1 => ?_) (AllReadyH.cons rfl (fun K1 hK1 => ?_) AllReadyH.nil)
  · go_simp
    refine (CE.out _).mono ?_
    rintro e w1 ⟨sc, gc, tc, rfl, hst, hb1, l1, l2, l3⟩
    have hb := bthen B0.out hb1
    refine hK1.out _ _ (st_two (H.out.below hb)) (fun hHeld => ?_)
    have HC := aside (hst.below (bnew w1 (.cells #[.pointer none] 23)))
    have KB := aside (heap_alloc_new w1 (.cells #[.pointer none] 23))
    have BB := aside (bthen hb (bnew w1 (.cells #[.pointer none] 23)))
    have HB := aside (show w.heap.size ≤ w1.heap.size from hb.size)
    have HZ := aside (show w.heap.size ≤ sc ∧ w.heap.size ≤ gc ∧ w.heap.size ≤ tc from ⟨l1, l2, l3⟩)
    clear hK1 K1 hst hb hb1 l1 l2 l3
    refine wpAnyH_ready (rs := [9]) (by kernel_rfl) (by simp) ?_
    refine AllReadyH.cons rfl (fun K1 hK1 => ?_) AllReadyH.nil
    go_simp
    refine hK1.out _ _ (st_two (H.out.below BB.out)) (fun hHeld => ?_)
    clear hK1 K1
    generalize w1.alloc (.cells #[.pointer none] 23) = V at *
    generalize w1.heap.size = bx at *
    refine wpAnyH_ready (rs := [10]) (by kernel_rfl) (by simp) ?_
    refine AllReadyH.cons rfl (fun K2 hK2 => ?_) AllReadyH.nil
    have kc := cell_one KB.out
    have kz := frozen_one KB.out
    go_simp
    have hci : CI w sc gc tc bx nd ck [] (V.setCell ⟨bx, 0, none⟩ (.pointer (some ⟨sc, 0, none⟩))) := cl_begin HC.out KB.out BB.out HB.out
    refine hK2.out _ _ (st_two (H.out.below hci.below)) (fun hHeld => ?_)
    clear hK2 K2 kc kz
    refine wpAnyH_done (by kernel_rfl) ?_ _
    exact REST.out sc gc tc bx _ _ _ _ _ _ _ _ _ _ hci HZ.out
  · go_simp
    have hb := (bnew w (.cells #[.pointer none] 23)).drew
    refine hK1.out _ _ (st_two (H.out.below hb)) (fun hHeld => ?_)
    have KA := aside (show (w.alloc (.cells #[.pointer none] 23)).drew.heap[w.heap.size]? = some (.cells #[.pointer none] 23 (0, 0)) from heap_alloc_new w (.cells #[.pointer none] 23))
    have BA := aside hb
    have HB := aside (Nat.le_refl w.heap.size)
    clear hK1 K1 hb
    generalize (w.alloc (.cells #[.pointer none] 23)).drew = V1 at *
    obtain ⟨bx, hbx⟩ : ∃ bx, w.heap.size = bx := ⟨_, rfl⟩
    have HBX : Hid (w.heap.size ≤ bx) := by rw [hbx]; exact Nat.le_refl _
    rw [hbx] at KA
    have HB := HBX
    refine wpAnyH_ready (rs := [8]) (by kernel_rfl) (by simp) ?_
    refine AllReadyH.cons rfl (fun K1 hK1 => ?_) AllReadyH.nil
    go_simp
    refine (CE.out _).mono ?_
    rintro e V ⟨sc, gc, tc, rfl, hst, hb1, l1, l2, l3⟩
    have hb := bthen BA.out hb1
    refine hK1.out _ _ (st_two (H.out.below hb)) (fun hHeld => ?_)
    have HC := aside hst
    have KB := aside (blk_on KA.out hb1)
    have BB := aside hb
    have HZ := aside (show w.heap.size ≤ sc ∧ w.heap.size ≤ gc ∧ w.heap.size ≤ tc from by have := BA.out.size; omega)
    clear hK1 K1 hst hb hb1 l1 l2 l3
    refine wpAnyH_ready (rs := [10]) (by kernel_rfl) (by simp) ?_
    refine AllReadyH.cons rfl (fun K2 hK2 => ?_) AllReadyH.nil
    have kc := cell_one KB.out
    have kz := frozen_one KB.out
    go_simp
    have hci : CI w sc gc tc bx nd ck [] (V.setCell ⟨bx, 0, none⟩ (.pointer (some ⟨sc, 0, none⟩))) := cl_begin HC.out KB.out BB.out HB.out
    refine hK2.out _ _ (st_two (H.out.below hci.below)) (fun hHeld => ?_)
    clear hK2 K2 kc kz
    refine wpAnyH_done (by kernel_rfl) ?_ _
    exact REST.out sc gc tc bx _ _ _ _ _ _ _ _ _ _ hci HZ.out

end Go.Proofs.YtlgcdcjhflihiaaDoor

/-
  The document's ghost: what it scans; in memory; New, Written, Held.
-/
import Derived.Test.YtfkdhambbpkmpaaGuG
import Derived.Deep.CutBlock
import Derived.Deep.DeepCutAuto
namespace Go.Proofs.Ytfkdhambbpkmpaa
open Go.RowKit
set_option linter.unusedVariables false

/-- The document's look at a pair. -/
def scanR1 (L : List En) (x : En × En) : Option (ByteArray × Int) := if En.newer x.1 x.2 = true then some (x.1.k, 191) else if wrB L x.2 = false then some (x.2.k, 192) else none
def scanR (L : List En) : List (En × En) → Option (ByteArray × Int)
  | [] => none
  | x :: r => match scanR1 L x with
    | some z => some z
    | none => scanR L r
theorem scanR_snoc {L : List En} {x : En × En} : ∀ {pre : List (En × En)}, scanR L pre = none → scanR L (pre ++ [x]) = scanR1 L x
  | [], _ => by
    show (match scanR1 L x with | some z => some z | none => scanR L []) = _
    cases scanR1 L x <;> rfl
  | y :: r, h => by
    have h1 : (match scanR1 L y with | some z => some z | none => scanR L r) = none := h
    show (match scanR1 L y with | some z => some z | none => scanR L (r ++ [x])) = _
    cases hy : scanR1 L y with
    | some z => rw [hy] at h1; cases h1
    | none => rw [hy] at h1; exact scanR_snoc h1
theorem scanR_part {L : List En} {z : ByteArray × Int} {r : List (En × En)} : ∀ {pre : List (En × En)}, scanR L pre = some z → scanR L (pre ++ r) = some z
  | [], h => by cases h
  | y :: q, h => by
    have h1 : (match scanR1 L y with | some z => some z | none => scanR L q) = some z := h
    show (match scanR1 L y with | some z => some z | none => scanR L (q ++ r)) = _
    cases hy : scanR1 L y with
    | some z2 => rw [hy] at h1; exact h1
    | none => rw [hy] at h1; exact scanR_part h1
def tr (p : En × En) : En × En := if En.newer p.1 p.2 = true then p else (eZ, p.2)
theorem prs_low {y : En} {k s : List En} (h : ∀ z ∈ k, kLt y.k z.k = true) : prs k (y :: s) = (eZ, y) :: prs k s := by
  cases k with
  | nil => exact prs_right y s
  | cons z k => exact prs_gt k s (kLt_asymm (h z List.mem_cons_self)) (h z List.mem_cons_self)
theorem lkL_cons {a b c d : List En} {p : En × En} (h : prs a b = p :: prs c d) : lkL a b = (if En.newer p.1 p.2 = true then [p.1] else []) ++ lkL c d := by
  unfold lkL
  rw [h, List.filter_cons]
  split <;> rfl
theorem MapL.tail {x : En} {l : List En} (h : MapL (x :: l)) : MapL l := ⟨(rises_consE.1 h.rises).2, fun e he => h.chk e (List.mem_cons_of_mem _ he)⟩
theorem pos_of {x : En} {l : List En} (h : MapL (x :: l)) : 1 ≤ x.c ∧ 0 ≤ x.n := by
  have := chk_pos (h.chk x List.mem_cons_self)
  exact ⟨this.1, this.2.2⟩
theorem prs_lk (a b : List En) : MapL a → MapL b → prs (lkL a b) b = (prs a b).map tr := by
  induction a, b using prs.induct with
  | case1 => intro _ _; simp [lkL, prs_nil]
  | case2 x r ih =>
    intro ha hb
    have hn := (newer_z (pos_of ha)).2
    rw [lkL_cons (prs_left x r), if_pos hn, prs_left, List.map_cons, ← ih ha.tail hb]
    show prs (x :: lkL r []) [] = _
    rw [prs_left]
    unfold tr
    rw [if_pos hn]
  | case3 y s ih =>
    intro ha hb
    have hn := (newer_z (pos_of hb)).1
    have h0 := lk_sub [] s ha hb.tail
    rw [lkL_cons (prs_right y s), if_neg (by rw [hn]; simp), prs_right, List.map_cons, ← ih ha hb.tail, List.nil_append, prs_low (fun z hz => by have := h0.subset hz; cases this)]
    unfold tr
    rw [if_neg (by rw [hn]; simp)]
  | case4 x r y s h ih =>
    intro ha hb
    have hn := (newer_z (pos_of ha)).2
    rw [lkL_cons (prs_lt r s h), if_pos hn, prs_lt r s h, List.map_cons, ← ih ha.tail hb]
    show prs (x :: lkL r (y :: s)) (y :: s) = _
    rw [prs_lt _ s h]
    unfold tr
    rw [if_pos hn]
  | case5 x r y s h h' ih =>
    intro ha hb
    have hn := (newer_z (pos_of hb)).1
    have h0 := lk_sub (x :: r) s ha hb.tail
    have hp := prs_gt r s (by simpa using h) h'
    rw [lkL_cons hp, if_neg (by rw [hn]; simp), hp, List.map_cons, ← ih ha hb.tail, List.nil_append, prs_low (fun z hz => by
      rcases List.mem_cons.1 (h0.subset hz) with e | e
      · rw [e]; exact h'
      · exact kLt_trans h' ((rises_consE.1 ha.rises).1 z e))]
    unfold tr
    rw [if_neg (by rw [hn]; simp)]
  | case6 x r y s h h' ih =>
    intro ha hb
    have h0 := lk_sub r s ha.tail hb.tail
    have hk : x.k = y.k := kLt_total (by simpa using h) (by simpa using h')
    have hp := prs_eq r s (by simpa using h) (by simpa using h')
    rw [lkL_cons hp, hp, List.map_cons, ← ih ha.tail hb.tail]
    by_cases hn : En.newer x y = true
    · rw [if_pos hn]
      show prs (x :: lkL r s) (y :: s) = _
      rw [prs_eq _ s (by simpa using h) (by simpa using h')]
      unfold tr
      rw [if_pos hn]
    · rw [if_neg hn, List.nil_append, prs_low (fun z hz => by rw [← hk]; exact (rises_consE.1 ha.rises).1 z (h0.subset hz))]
      unfold tr
      rw [if_neg hn]
theorem scan_tr {L : List En} {P : List (En × En)} (h : ∀ p ∈ P, En.newer p.1 p.2 = true → ¬ p.1 = eZ) : scanP L (P.map tr) = scanR L P := by
  induction P with
  | nil => rfl
  | cons p P ih =>
    have e : scan1 L (tr p) = scanR1 L p := by
      unfold scan1 scanR1 tr
      by_cases hn : En.newer p.1 p.2 = true
      · rw [if_pos hn, if_pos hn, if_pos (enEqB_ne (h p List.mem_cons_self hn))]
      · rw [if_neg hn, if_neg hn, if_neg (by rw [enEqB_same]; simp)]
    show (match scan1 L (tr p) with | some z => some z | none => scanP L (P.map tr)) = (match scanR1 L p with | some z => some z | none => scanR L P)
    rw [e, ih (fun q hq => h q (List.mem_cons_of_mem _ hq))]
/-- Both scans find the same. -/
theorem scan_same {L a b : List En} (ha : MapL a) (hb : MapL b) : scanP L (prs (lkL a b) b) = scanR L (prs a b) := by
  rw [prs_lk a b ha hb]
  refine scan_tr (fun p hp hn e => ?_)
  rcases (mem_prs a b ha.rises hb.rises p).1 hp with ⟨h1, -, -⟩ | ⟨h1, -, -⟩ | ⟨-, h2, -⟩
  · have := (chk_pos (ha.chk _ h1)).1; rw [e] at this; exact absurd this (by decide)
  · have := (chk_pos (ha.chk _ h1)).1; rw [e] at this; exact absurd this (by decide)
  · rw [e] at hn
    have h3 := chk_pos (hb.chk _ h2)
    rw [(newer_z ⟨h3.1, h3.2.2⟩).1] at hn
    cases hn
/-- The document's ghost: all that was written, in a row, and what every node held. -/
structure Rh (w : World) (B q : Nat) (va : Value) (L : List En) (H : Nat → Hd) : Prop where
  bx : w.heap[q]? = some (.cells #[va, (H 0).v, (H 1).v, (H 2).v, (H 3).v, (H 4).v, (H 5).v, (H 6).v, (H 7).v] 53 (0, 0))
  qB : B ≤ q
  all : w.ownsRow B 31 5 va L.length (entCells L)
  chk : ∀ e ∈ L, e.chk = 0
  held : ∀ i, i < 8 → w.ownsRow B 31 5 (H i).v (H i).n (entCells (H i).l)
  maps : ∀ i, i < 8 → MapL (H i).l
  sz : ∀ i, i < 8 → (H i).n ≤ 1073741824
  ap : ∀ i, i < 8 → ∀ j, (H i).v.ownBlock = some j → ¬ va.ownBlock = some j
theorem Rh.cellH {w : World} {B q : Nat} {va : Value} {L : List En} {H : Nat → Hd} (h : Rh w B q va L H) : ∀ i, i < 8 → w.cell? ⟨q, 1 + i, none⟩ = some (H i).v := fun i hi => by
  rw [cell_of_row _ _ (1 + i) _ _ _ h.bx]
  match i, hi with
  | 0, _ => rfl
  | 1, _ => rfl
  | 2, _ => rfl
  | 3, _ => rfl
  | 4, _ => rfl
  | 5, _ => rfl
  | 6, _ => rfl
  | 7, _ => rfl
theorem Rh.keep {S : Nat → Prop} {w : World} {B q : Nat} {va : Value} {L : List En} {H : Nat → Hd} {w' : World} (h : Rh w B q va L H) (k : Keeps S w w') (h1 : ¬ S q) (h2 : ∀ j, va.ownBlock = some j → ¬ S j) (h3 : ∀ i, i < 8 → ∀ j, (H i).v.ownBlock = some j → ¬ S j) : Rh w' B q va L H :=
  ⟨blk_keep h.bx k h1, h.qB, ownsRow_keep h.all k h2, h.chk, fun i hi => ownsRow_keep (h.held i hi) k (h3 i hi), h.maps, h.sz, h.ap⟩
theorem Rh.on {w : World} {B q : Nat} {va : Value} {L : List En} {H : Nat → Hd} {w' : World} (h : Rh w B q va L H) (k : Below w.heap.size w w') : Rh w' B q va L H :=
  ⟨blk_on h.bx k, h.qB, own_on h.all k, h.chk, fun i hi => own_on (h.held i hi) k, h.maps, h.sz, h.ap⟩
theorem chkKeys {L : List En} (h : ∀ e ∈ L, e.chk = 0) : KeysOk L := fun e he => by have := (chk_pos (h e he)).2.1; omega
/-- An entry of the row, cell by cell. -/
theorem Rh.row {w : World} {B q : Nat} {va : Value} {L : List En} {H : Nat → Hd} (h : Rh w B q va L H) {j : Nat} {x : En} (hx : L[j]? = some x) : ∃ g c, va = .slice (some ⟨g, 0, none⟩) L.length c ∧ (w.cell? ⟨g, j * 5, none⟩ = some (.string x.k) ∧ w.cell? ⟨g, j * 5 + 1, none⟩ = some (.int .i64 x.c) ∧ w.cell? ⟨g, j * 5 + 2, none⟩ = some (.int .i64 x.n) ∧ w.cell? ⟨g, j * 5 + 3, none⟩ = some (.string x.v) ∧ w.cell? ⟨g, j * 5 + 4, none⟩ = some (.bool x.d)) := by
  have hj : j < L.length := (List.getElem?_eq_some_iff.1 hx).1
  obtain ⟨a, c, rfl, -, -, ⟨-, h0, -⟩ | ⟨g, rfl, -⟩⟩ := own_slice h.all
  · omega
  · obtain ⟨T, hT, hTl, -⟩ := entsG_of h.all (chkKeys h.chk)
    have hq : T j = x := by
      have h1 := firstE_get T hj
      rw [hTl, hx] at h1
      injection h1 with h1
      exact h1.symm
    have h5 := ents_five hT hj hq
    simp only [Nat.zero_add] at h5
    exact ⟨g, c, rfl, h5⟩
set_option maxHeartbeats 3200000 in
theorem rhnew_any (w : World) : Calls Try.prog 7 #[] w fun e w' => ∃ q, e = .returned (.pointer (some ⟨q, 0, none⟩)) ∧ Rh w' w.heap.size q (.slice none 0 0) [] (fun _ => hd0) ∧ Below w.heap.size w w' := by
  go_enter Try.func7, Try.ntmps7
  go_wp2
  go_ret
  have b2 := bnew w (.cells #[.slice none 0 0, hd0.v, hd0.v, hd0.v, hd0.v, hd0.v, hd0.v, hd0.v, hd0.v] 53)
  have k2 := heap_alloc_new w (.cells #[.slice none 0 0, hd0.v, hd0.v, hd0.v, hd0.v, hd0.v, hd0.v, hd0.v, hd0.v] 53)
  exact ⟨_, rfl, ⟨by simpa [hd0, Hd.v] using k2, Nat.le_refl _, ⟨rfl, .inl ⟨rfl, rfl⟩⟩, fun e he => (by cases he), fun i hi => ⟨rfl, .inl ⟨rfl, rfl⟩⟩, fun i hi => MapL.nil, fun i hi => Nat.zero_le _, fun i hi j hj => (by cases hj)⟩, b2⟩
set_option maxHeartbeats 8000000 in
set_option maxRecDepth 100000 in
theorem rhwritten_any {w : World} {B q : Nat} {va : Value} {L : List En} {H : Nat → Hd} (h : Rh w B q va L H) (h1 : OneW L) (e : En) : Calls Try.prog 18 #[.pointer (some ⟨q, 0, none⟩), .agg #[.string e.k, .int .i64 e.c, .int .i64 e.n, .string e.v, .bool e.d]] w fun r w' => r = .returned (.bool (wrB L e)) ∧ Below w.heap.size w w' := by
  obtain ⟨b, hb⟩ : ∃ b, w.heap.size = b := ⟨_, rfl⟩
  obtain ⟨V, hV⟩ : ∃ V, w.alloc (.cells #[.string e.k, .int .i64 e.c, .int .i64 e.n, .string e.v, .bool e.d] 31) = V := ⟨_, rfl⟩
  have kq := heap_alloc_new w (.cells #[.string e.k, .int .i64 e.c, .int .i64 e.n, .string e.v, .bool e.d] 31)
  have bq := bnew w (.cells #[.string e.k, .int .i64 e.c, .int .i64 e.n, .string e.v, .bool e.d] 31)
  rw [hV] at kq bq
  rw [hb] at kq
  have HR := aside (h.on bq)
  have KQ := aside kq
  have BQ := aside bq
  have HLN := aside (show L.length ≤ 9223372036854775807 from by obtain ⟨a, c, -, h2, h3, -⟩ := own_slice h.all; unfold maxLen at h3; omega)
  have HW := aside (wrB_iff h1 e)
  obtain ⟨u, hu⟩ : ∃ u, wrB L e = u := ⟨_, rfl⟩
  rw [hu] at HW ⊢
  have c0 : V.cell? ⟨q, 0, none⟩ = some va := by rw [cell_of_row _ _ 0 _ _ _ HR.out.bx]; rfl
  obtain ⟨av, cv, rfl, hc1, hc2, -⟩ := own_slice h.all
  obtain ⟨nL, hnL⟩ : ∃ n, L.length = n := ⟨_, rfl⟩
  have HNL := aside hnL
  rw [hnL] at c0
  have hmx : (nL : Int) ≤ 9223372036854775807 := by have := HLN.out; omega
  clear h h1 kq bq hu hc1 hc2 hnL
  go_enter Try.func18, Try.ntmps18
  go_upto_region 1 with fail
  try rw [hV]
  try rw [hb]
  clear hV hb
  go_wp2_with fail
  go_loopw [5] (fun i wr => ∃ j : Nat, i = .int .i64 (j : Int) ∧ j ≤ nL ∧ Hid (∀ k x, k < j → L[k]? = some x → ¬ x = e) ∧ Below V.heap.size V wr) (fun i _ => nL - (intOf i).toNat)
  case atStart => exact ⟨0, rfl, Nat.zero_le _, fun k x hk => by omega, Below.refl _ _⟩
  case round =>
    obtain ⟨j, rfl, hj, HP, hB⟩ := hrel
    have HB := aside hB
    have c0 := cell_in c0 hB
    clear hB
    by_cases hlt : (j : Int) < (nL : Int)
    · have hj0 : (0 : Int) ≤ (j : Int) := by omega
      obtain ⟨x, hx⟩ : ∃ x, L[j]? = some x := ⟨L[j]'(by have := HNL.out; omega), List.getElem?_eq_getElem _⟩
      have HXM := aside (List.mem_of_getElem? hx)
      have HXJ := aside hx
      obtain ⟨g, c, e1, g0, g1, g2, g3, g4⟩ := (HR.out.on HB.out).row hx
      injection e1 with e1 _ e3
      subst e1 e3
      obtain ⟨⟨y0, y1, y2, y3, y4⟩, -⟩ := box5 (blk_on KQ.out HB.out)
      have SX := aside (fun (W : World) (bb : Below wr.heap.size wr W) => (show W.cell? ⟨q, 0, none⟩ = some (.slice (some ⟨g, 0, none⟩) nL cv) ∧ (W.cell? ⟨b, 0, none⟩ = some (.string e.k) ∧ W.cell? ⟨b, 1, none⟩ = some (.int .i64 e.c) ∧ W.cell? ⟨b, 2, none⟩ = some (.int .i64 e.n) ∧ W.cell? ⟨b, 3, none⟩ = some (.string e.v) ∧ W.cell? ⟨b, 4, none⟩ = some (.bool e.d)) ∧ W.cell? ⟨g, j * 5, none⟩ = some (.string x.k) ∧ W.cell? ⟨g, j * 5 + 1, none⟩ = some (.int .i64 x.c) ∧ W.cell? ⟨g, j * 5 + 2, none⟩ = some (.int .i64 x.n) ∧ W.cell? ⟨g, j * 5 + 3, none⟩ = some (.string x.v) ∧ W.cell? ⟨g, j * 5 + 4, none⟩ = some (.bool x.d) from
        ⟨cell_in c0 bb, ⟨cell_in y0 bb, cell_in y1 bb, cell_in y2 bb, cell_in y3 bb, cell_in y4 bb⟩, cell_in g0 bb, cell_in g1 bb, cell_in g2 bb, cell_in g3 bb, cell_in g4 bb⟩))
      clear hx g0 g1 g2 g3 g4 y0 y1 y2 y3 y4
      have HEQ := fun W => ent_eq x e W
      obtain ⟨z, hz⟩ : ∃ z, enEqB x e = z := ⟨_, rfl⟩
      have HZ := aside hz
      rw [hz] at HEQ
      have hEQ := HEQ
      clear hz HEQ
      go_wp2_with fail
      refine wp_region_held_drew (S := fun W => W.cell? ⟨q, 0, none⟩ = some (.slice (some ⟨g, 0, none⟩) nL cv) ∧ (W.cell? ⟨b, 0, none⟩ = some (.string e.k) ∧ W.cell? ⟨b, 1, none⟩ = some (.int .i64 e.c) ∧ W.cell? ⟨b, 2, none⟩ = some (.int .i64 e.n) ∧ W.cell? ⟨b, 3, none⟩ = some (.string e.v) ∧ W.cell? ⟨b, 4, none⟩ = some (.bool e.d)) ∧ W.cell? ⟨g, j * 5, none⟩ = some (.string x.k) ∧ W.cell? ⟨g, j * 5 + 1, none⟩ = some (.int .i64 x.c) ∧ W.cell? ⟨g, j * 5 + 2, none⟩ = some (.int .i64 x.n) ∧ W.cell? ⟨g, j * 5 + 3, none⟩ = some (.string x.v) ∧ W.cell? ⟨g, j * 5 + 4, none⟩ = some (.bool x.d)) (by kernel_rfl) (SX.out _ (Below.refl _ wr).drew) (fun hHeld => ?_)
      refine wpAnyH_take (i := 0) (v := ?_) rfl (by kernel_rfl) (by kernel_rfl) (by kernel_rfl) (fun _ _ _ h => h) (Or.inl ⟨by rfl, ?_⟩) (by assumption) ?_
      rotate_left
      · intro w hSw
        go_simp
        try with_reducible rfl
      simp only [Act.put, List.getElem_toArray, List.getElem_cons_zero, List.setIfInBounds_toArray, List.set_cons_zero, List.set_cons_succ]
      refine wpAnyH_take (i := 1) (v := ?_) rfl (by kernel_rfl) (by kernel_rfl) (by kernel_rfl) (fun _ _ _ h => h) (Or.inl ⟨by rfl, ?_⟩) (by assumption) ?_
      rotate_left
      · intro w hSw
        go_simp
        try with_reducible rfl
      simp only [Act.put, List.getElem_toArray, List.getElem_cons_zero, List.getElem_cons_succ, List.setIfInBounds_toArray, List.set_cons_zero, List.set_cons_succ]
      refine wpAnyH_take (i := 2) (v := ?_) rfl (by kernel_rfl) (by kernel_rfl) (by kernel_rfl) (fun _ _ _ h => h) (Or.inl ⟨by rfl, ?_⟩) (by assumption) ?_
      rotate_left
      · intro w hSw
        go_simp
        try with_reducible rfl
      simp only [Act.put, List.getElem_toArray, List.getElem_cons_zero, List.getElem_cons_succ, List.setIfInBounds_toArray, List.set_cons_zero, List.set_cons_succ]
      refine wpAnyH_take (i := 3) (v := ?_) rfl (by kernel_rfl) (by kernel_rfl) (by kernel_rfl) (fun _ _ _ h => h) (Or.inl ⟨by rfl, ?_⟩) (by assumption) ?_
      rotate_left
      · intro w hSw
        go_simp
        try with_reducible rfl
      simp only [Act.put, List.getElem_toArray, List.getElem_cons_zero, List.getElem_cons_succ, List.setIfInBounds_toArray, List.set_cons_zero, List.set_cons_succ]
      refine wpAnyH_take (i := 4) (v := ?_) rfl (by kernel_rfl) (by kernel_rfl) (by kernel_rfl) (fun _ _ _ h => h) (Or.inl ⟨by rfl, ?_⟩) (by assumption) ?_
      rotate_left
      · intro w hSw
        go_simp
        try with_reducible rfl
      simp only [Act.put, List.getElem_toArray, List.getElem_cons_zero, List.getElem_cons_succ, List.setIfInBounds_toArray, List.set_cons_zero, List.set_cons_succ]
      refine wpAnyH_take (i := 5) (v := ?_) rfl (by kernel_rfl) (by kernel_rfl) (by kernel_rfl) (fun _ _ _ h => h) (Or.inl ⟨by rfl, ?_⟩) (by assumption) ?_
      rotate_left
      · intro w hSw
        go_simp
        try with_reducible rfl
      simp only [Act.put, List.getElem_toArray, List.getElem_cons_zero, List.getElem_cons_succ, List.setIfInBounds_toArray, List.set_cons_zero, List.set_cons_succ]
      refine wpAnyH_take (i := 6) (v := ?_) rfl (by kernel_rfl) (by kernel_rfl) (by kernel_rfl) (fun _ _ _ h => h) (Or.inl ⟨by rfl, ?_⟩) (by assumption) ?_
      rotate_left
      · intro w hSw
        go_simp
        try with_reducible rfl
      simp only [Act.put, List.getElem_toArray, List.getElem_cons_zero, List.getElem_cons_succ, List.setIfInBounds_toArray, List.set_cons_zero, List.set_cons_succ]
      refine wpAnyH_take (i := 7) (v := ?_) rfl (by kernel_rfl) (by kernel_rfl) (by kernel_rfl) (fun _ _ _ h => h) (Or.inl ⟨by rfl, ?_⟩) (by assumption) ?_
      rotate_left
      · intro w hSw
        go_simp
        try with_reducible rfl
      simp only [Act.put, List.getElem_toArray, List.getElem_cons_zero, List.getElem_cons_succ, List.setIfInBounds_toArray, List.set_cons_zero, List.set_cons_succ]
      refine wpAnyH_take (i := 8) (v := ?_) rfl (by kernel_rfl) (by kernel_rfl) (by kernel_rfl) (fun _ _ _ h => h) (Or.inl ⟨by rfl, ?_⟩) (by assumption) ?_
      rotate_left
      · intro w hSw
        go_simp
        try with_reducible rfl
      simp only [Act.put, List.getElem_toArray, List.getElem_cons_zero, List.getElem_cons_succ, List.setIfInBounds_toArray, List.set_cons_zero, List.set_cons_succ]
      refine wpAnyH_done (by kernel_rfl) ?_ _
      clear SX hEQ
      have HBD := aside (HB.out.drew)
      cases z
      · have HP2 := aside (show ∀ k x, k < j + 1 → L[k]? = some x → ¬ x = e from fun k x' hk hx' => by
          by_cases h9 : k = j
          · rw [h9, HXJ.out] at hx'
            injection hx' with hx'
            rw [← hx']
            intro h8
            have := (enEqB_iff x e).2 h8
            rw [HZ.out] at this
            cases this
          · exact HP.out k x' (by omega) hx')
        clear hHeld
        go_wp2
        go_roundw
        case rel => exact ⟨j + 1, by first | rfl | go_num, by omega, HP2.out, by first | exact HBD.out | exact HB.out⟩
        case measure => simp [intOf] <;> omega
      · have HU := aside (show u = true from HW.out.2 (by rw [← (enEqB_iff x e).1 HZ.out]; exact HXM.out))
        clear hHeld
        go_wp2
        go_ret
        exact ⟨by rw [HU.out]; rfl, bthen BQ.out (by first | exact HBD.out | exact HB.out)⟩
    · have HU := aside (show u = false from by
        cases u with
        | false => rfl
        | true =>
          obtain ⟨k, hk, hk2⟩ := List.getElem_of_mem (HW.out.1 rfl)
          exact absurd hk2 (HP.out k _ (by have := HNL.out; omega) (List.getElem?_eq_getElem hk)))
      go_wp2
      go_ret
      exact ⟨by rw [HU.out]; rfl, bthen BQ.out HB.out⟩
set_option maxHeartbeats 3200000 in
theorem rhheld_any {w : World} {B q : Nat} {va : Value} {L : List En} {H : Nat → Hd} (h : Rh w B q va L H) (node : Int) : Calls Try.prog 11 #[.pointer (some ⟨q, 0, none⟩), .int .i64 node] w fun e w' => Gvs w (heldG H node).n (heldG H node).l e w' := by
  have BE := aside (bnew w (.cells #[] 31))
  have OE := aside (own_emptyE w w.heap.size (Nat.le_refl _))
  by_cases hn : 0 ≤ node ∧ node < 8
  · have hg : heldG H node = H node.toNat := by unfold heldG; rw [if_pos hn]
    rw [hg]
    obtain ⟨i, rfl⟩ : ∃ i : Nat, node = (i : Int) := ⟨node.toNat, by omega⟩
    rw [Int.toNat_natCast]
    have hi : i < 8 := by omega
    have c0 := cell_in (h.cellH i hi) BE.out
    obtain ⟨T, hE, hT, hf⟩ := entsG_of (h.held i hi) (mapKeys (h.maps i hi))
    have HEE := aside (hE.keep BE.out)
    have HF := aside hf
    have HT := aside hT
    have HSZ := aside (h.sz i hi)
    have hi0 : (0 : Int) ≤ (i : Int) := by omega
    have hi8 : (i : Int) < 8 := by omega
    have hi9 : ¬ (i : Int) < 0 := by omega
    have hi10 : ¬ (8 : Int) ≤ (i : Int) := by omega
    unfold Hd.v at c0
    generalize H i = hd at *
    clear h hE hT hf hn hg hi
    go_enter Try.func11, Try.ntmps11
    go_wp2_with (at_builtin; refine wpList_plain rfl fun K hK => op_append_entsG _ _ rfl w.heap.size 0 _ [] (by rfl) OE.out hd.a hd.n hd.c hd.n T (by rfl) HEE.out HF.out (by omega) (by have := HSZ.out; omega) (by simp) ?_; intro a3 c3 w3 own3 gr3; refine hK _ _ ?_; refine Hid.out ?_)
    refine aside ?_
    have B3 := aside (BE.out.grown gr3 (by simp) (fun k e => (OE.out.lt k e).1))
    have O3 := aside (show w3.ownsRow w.heap.size 31 5 (.slice a3 hd.n c3) hd.n (entCells hd.l) from by rw [← HT.out]; exact own3)
    clear own3 gr3 OE BE
    go_wp2
    go_ret
    exact ⟨_, _, rfl, O3.out, B3.out⟩
  · have hg : heldG H node = hd0 := by unfold heldG; rw [if_neg hn]
    rw [hg]
    clear h hg
    by_cases h1 : node < 0
    · go_enter Try.func11, Try.ntmps11
      go_wp2
      go_ret
      exact ⟨_, _, rfl, OE.out, BE.out⟩
    · have h2 : (8 : Int) ≤ node := by omega
      go_enter Try.func11, Try.ntmps11
      go_wp2
      go_ret
      exact ⟨_, _, rfl, OE.out, BE.out⟩
end Go.Proofs.Ytfkdhambbpkmpaa

/-
  Next of the code's timer.
-/
import Derived.Test.YtoajgacofmodoaaTmB
namespace Go.Proofs.Ytoajgacofmodoaa
open Go.RowKit
set_option linter.unusedVariables false

theorem below_grow (w : World) (os : Array Obj) : Below w.heap.size w (Go.Sort.grow w os) := by
  refine ⟨rfl, rfl, rfl, ?_, ?_⟩
  · show w.heap.size ≤ (w.heap ++ os).size
    rw [Array.size_append]; omega
  · intro k hk
    show (w.heap ++ os)[k]? = w.heap[k]?
    rw [Array.getElem?_append_left hk]
theorem below_grown {n : Nat} {a b c : World} {row : Option Nat} (h : Below n a b) (hg : b.grownBy c row) (hn : n ≤ b.heap.size) (hr : ∀ j, row = some j → n ≤ j) : Below n a c :=
  ⟨hg.os.trans h.os, hg.tape.trans h.tape, hg.output.trans h.output, Nat.le_trans h.size hg.size, fun k hk => (hg.block k (Nat.lt_of_lt_of_le hk hn) (fun e => by have := hr k e.symm; omega)).trans (h.block k hk)⟩
theorem set_in {w : World} {b : Nat} (k : Nat) (u : Value) {cs : Array Value} {t : TypeId} (h : w.heap[b]? = some (.cells cs t (0, 0))) : (w.setCell ⟨b, k, none⟩ u).heap[b]? = some (.cells (cs.setIfInBounds k u) t (0, 0)) := by
  simp only [World.setCell]
  rw [Array.getElem?_modify]
  simp [h]
theorem set_tri {w : World} {b : Nat} {x y z : Value} {t : TypeId} (h : w.heap[b]? = some (.cells #[x, y, z] t (0, 0))) (u v r : Value) : (((w.setCell ⟨b, 0, none⟩ u).setCell ⟨b, 1, none⟩ v).setCell ⟨b, 2, none⟩ r).heap[b]? = some (.cells #[u, v, r] t (0, 0)) := by
  have h1 := set_in 2 r (set_in 1 v (set_in 0 u h))
  simpa using h1
theorem set_four {w : World} {b : Nat} {x y z d : Value} {t : TypeId} (h : w.heap[b]? = some (.cells #[x, y, z, d] t (0, 0))) (u v r s : Value) : ((((w.setCell ⟨b, 0, none⟩ u).setCell ⟨b, 1, none⟩ v).setCell ⟨b, 2, none⟩ r).setCell ⟨b, 3, none⟩ s).heap[b]? = some (.cells #[u, v, r, s] t (0, 0)) := by
  have h1 := set_in 3 s (set_in 2 r (set_in 1 v (set_in 0 u h)))
  simpa using h1
theorem four {w : World} {i : Nat} {a b c d : Value} {T : TypeId} (h : w.heap[i]? = some (.cells #[a, b, c, d] T (0, 0))) : w.cell? ⟨i, 0, none⟩ = some a ∧ w.cell? ⟨i, 1, none⟩ = some b ∧ w.cell? ⟨i, 2, none⟩ = some c ∧ w.cell? ⟨i, 3, none⟩ = some d := by
  simp [World.cell?, h]
theorem keeps_tri (w : World) (b : Nat) (u v r : Value) : Keeps (fun x => x = b) w (((w.setCell ⟨b, 0, none⟩ u).setCell ⟨b, 1, none⟩ v).setCell ⟨b, 2, none⟩ r) :=
  (((Keeps.refl (fun x => x = b) w).setCell (p := ⟨b, 0, none⟩) (fun _ => rfl) u).setCell (p := ⟨b, 1, none⟩) (fun _ => rfl) v).setCell (p := ⟨b, 2, none⟩) (fun _ => rfl) r
theorem keeps_four (w : World) (b : Nat) (u v r s : Value) : Keeps (fun x => x = b) w ((((w.setCell ⟨b, 0, none⟩ u).setCell ⟨b, 1, none⟩ v).setCell ⟨b, 2, none⟩ r).setCell ⟨b, 3, none⟩ s) :=
  (keeps_tri w b u v r).setCell (p := ⟨b, 3, none⟩) (fun _ => rfl) s
theorem ranges_keep {S : Nat → Prop} {w w' : World} {b r n : Nat} {D : DataW Unit} {left : Lit → Bool} {cnt : Nat} (h : w.ranges Try.prog 29 RI b r n D left cnt) (k : Keeps S w w') (hb : ¬ S b) (hr : ¬ S r) : w'.ranges Try.prog 29 RI b r n D left cnt := by
  obtain ⟨es, clock, since, seen, c0, h1, F, hs, hD, h2, rest⟩ := h
  exact ⟨es, clock, since, seen, c0, blk_keep h1 k hb, F, hs, hD, blk_keep h2 k hr, rest⟩
theorem invKN (key : Value) (kl : Lit) (h : keyOf Try.prog 29 key = some kl) : ∃ x, key = nmV x := by
  obtain ⟨n, -, e, -⟩ := keyOf_inv h
  exact ⟨n, e⟩
theorem invVI (v : Value) (y : DataW Unit × List MemPlace) (h : RI v = some y) : ∃ c, v = Value.int .i64 c := by
  obtain ⟨a, e, -⟩ := plainElem_int_inv Try.underlying3 h
  exact ⟨a, e⟩
/-- What the step of a range over a timer's map gives is one of its alarms. -/
theorem step_al {D : DataW Unit} {L : List Alm} (hr : Rep D L) {x : Nam} {c : Int} {kl : Lit} {y : DataW Unit × List MemPlace} (hk : keyOf Try.prog 29 (nmV x) = some kl) (hv : RI (Value.int .i64 c) = some y) (hat : ∀ zd, D.atKey kl zd = y.1) : wfN x ∧ kl = klN x ∧ (x, c) ∈ L := by
  obtain ⟨n, hn, e1, rfl⟩ := keyOf_inv hk
  obtain rfl := nmV_inj e1
  obtain ⟨a, e2, e3, hw⟩ := plainElem_int_inv Try.underlying3 hv
  injection e2 with _ e2
  subst e2
  obtain ⟨t, ht⟩ := (hr.has x hn).1 (Maps.has_true_of_atKey hat)
  have h1 := hr.val x hn t ht .nil
  rw [hat, e3] at h1
  injection h1 with h1
  injection h1 with _ h1
  subst h1
  exact ⟨hn, rfl, ht⟩
/-- How far Next has come: which alarms are still to come, whether one was found, which is the first one. -/
def NxI (L : List Alm) (left : Lit → Bool) (fb : Bool) (y : Alm) : Prop :=
  (fb = false → (∀ a ∈ L, left (klN a.1) = true) ∧ y = ((0, 0, 0), 0)) ∧ (fb = true → y ∈ L ∧ ∀ a ∈ L, left (klN a.1) = false → a = y ∨ alt y a)
theorem struck {L : List Alm} (ho : AlOk L) (hg : Gl L) {x : Alm} (hx : x ∈ L) {left : Lit → Bool} {a : Alm} (ha : a ∈ L) (h : (left (klN a.1) && !(klN a.1).sameKey (klN x.1)) = false) : a = x ∨ left (klN a.1) = false := by
  by_cases e : a.1 = x.1
  · left
    obtain ⟨n, t⟩ := a
    obtain ⟨m, s⟩ := x
    simp only at e
    subst e
    rw [hg.one ha hx]
  · right
    rw [Maps.sameKey_ne (fun e2 => e (klN_inj (ho a ha).1 (ho x hx).1 e2))] at h
    simpa using h
theorem NxI.first {L : List Alm} (ho : AlOk L) (hg : Gl L) {x : Alm} (hx : x ∈ L) {left : Lit → Bool} {y : Alm} (h : NxI L left false y) : NxI L (fun z => left z && !z.sameKey (klN x.1)) true x :=
  ⟨fun e => (by cases e), fun _ => ⟨hx, fun a ha e => by
    rcases struck ho hg hx ha e with h1 | h1
    · exact .inl h1
    · rw [(h.1 rfl).1 a ha] at h1; cases h1⟩⟩
theorem NxI.less {L : List Alm} (ho : AlOk L) (hg : Gl L) {x : Alm} (hx : x ∈ L) {left : Lit → Bool} {y : Alm} (h : NxI L left true y) (hl : alt x y) : NxI L (fun z => left z && !z.sameKey (klN x.1)) true x :=
  ⟨fun e => (by cases e), fun _ => ⟨hx, fun a ha e => by
    rcases struck ho hg hx ha e with h1 | h1
    · exact .inl h1
    · rcases (h.2 rfl).2 a ha h1 with h2 | h2
      · right; rw [h2]; exact hl
      · right; exact alt_trans hl h2⟩⟩
theorem NxI.stay {L : List Alm} (ho : AlOk L) (hg : Gl L) {x : Alm} (hx : x ∈ L) {left : Lit → Bool} {y : Alm} (h : NxI L left true y) (hl : ¬ alt x y) : NxI L (fun z => left z && !z.sameKey (klN x.1)) true y :=
  ⟨fun e => (by cases e), fun _ => ⟨(h.2 rfl).1, fun a ha e => by
    rcases struck ho hg hx ha e with h1 | h1
    · subst h1
      by_cases e2 : a = y
      · exact .inl e2
      · exact .inr (alt_not hl e2)
    · exact (h.2 rfl).2 a ha h1⟩⟩
/-- What Next tells. -/
def nextV : List Alm → Value
  | [] => .tuple #[.agg #[.int .i64 0, .int .i64 0, .int .i64 0], .int .i64 0, .bool false]
  | a :: _ => .tuple #[.agg #[.int .i64 a.1.1, .int .i64 a.1.2.1, .int .i64 a.1.2.2], .int .i64 a.2, .bool true]
theorem NxI.done {L : List Alm} (hg : Gl L) {left : Lit → Bool} {fb : Bool} {y : Alm} (h : NxI L left fb y) (hl : ∀ kl, left kl = false) : nextV L = .tuple #[.agg #[.int .i64 y.1.1, .int .i64 y.1.2.1, .int .i64 y.1.2.2], .int .i64 y.2, .bool fb] := by
  cases fb with
  | false =>
    obtain ⟨h1, rfl⟩ := h.1 rfl
    cases L with
    | nil => rfl
    | cons a r => have := h1 a (by simp); rw [hl] at this; cases this
  | true =>
    obtain ⟨h1, h2⟩ := h.2 rfl
    obtain ⟨r, rfl⟩ := hg.least h1 (fun a ha => h2 a ha (hl _))
    rfl

set_option maxHeartbeats 8000000 in
set_option maxRecDepth 100000 in
theorem tnext_any {w : World} {p b : Nat} {L : List Alm} (h : Tim w p b L) : Calls Try.prog 11 #[.pointer (some ⟨p, 0, none⟩)] w fun e w' => e = .returned (nextV L) ∧ Below w.heap.size w w' := by
  obtain ⟨h1, hg, ho, D, hm, hr⟩ := h
  obtain ⟨U, hU⟩ : ∃ U, (w.alloc (.cells #[.int .i64 0, .int .i64 0, .int .i64 0] 29)).alloc (.cells #[.int .i64 0, .int .i64 0, .int .i64 0, .int .i64 0] 62) = U := ⟨_, rfl⟩
  have BU := aside (show Below w.heap.size w U from by rw [← hU]; exact bthen (bnew w _) (bnew _ _))
  have KQ := aside (show U.heap[w.heap.size]? = some (.cells #[.int .i64 0, .int .i64 0, .int .i64 0] 29 (0, 0)) ∧ U.heap[w.heap.size + 1]? = some (.cells #[.int .i64 0, .int .i64 0, .int .i64 0, .int .i64 0] 62 (0, 0)) ∧ U.heap.size = w.heap.size + 1 + 1 from by
    rw [← hU]
    refine ⟨blk_on (heap_alloc_new w _) (bnew _ _), ?_, by simp⟩
    have h9 := heap_alloc_new (w.alloc (.cells #[.int .i64 0, .int .i64 0, .int .i64 0] 29)) (.cells #[.int .i64 0, .int .i64 0, .int .i64 0, .int .i64 0] 62)
    simpa using h9)
  have c0 := cell_one (blk_on h1 BU.out)
  have OW := ownsMap_on hm BU.out
  have HG := aside hg
  have HO := aside ho
  have HR := aside hr
  clear h1 hg ho hm hr
  obtain ⟨q0, hq0⟩ : ∃ q, w.heap.size = q := ⟨_, rfl⟩
  obtain ⟨r, hr⟩ : ∃ r, U.heap.size = r := ⟨_, rfl⟩
  rw [hq0] at KQ BU
  go_enter Try.func11, Try.ntmps11
  go_wp2_with (first | (at_range; refine wpList_range_own _ rfl _ 58 rfl 29 3 lawNm Try.underlying58 RI b L.length D rfl (by first | exact OW | (rw [hU]; exact OW)) ?_; intro w0 hrg0 hg0 hs0) | go_in)
  go_frame
  rw [hr] at hrg0
  try rw [hr]
  have HQ0 := aside hq0
  have RG0 := aside hrg0
  have B0 := aside (below_grown BU.out hg0 (by have := KQ.out.2.2; omega) (fun j e => by cases e))
  have KQ0 := aside (show w0.heap[q0]? = _ ∧ w0.heap[q0 + 1]? = _ ∧ q0 + 1 + 1 ≤ w0.heap.size from ⟨(hg0.block _ (lt_of_blk KQ.out.1) (by simp)).trans KQ.out.1, (hg0.block _ (lt_of_blk KQ.out.2.1) (by simp)).trans KQ.out.2.1, by have := KQ.out.2.2; have := hg0.size; omega⟩)
  have NR := aside (show b ≠ q0 + 1 ∧ r ≠ q0 + 1 ∧ r = q0 + 1 + 1 from by
    obtain ⟨es, clock, h4, -⟩ := OW
    refine ⟨fun e => ?_, ?_, ?_⟩
    · have := KQ.out.2.1; rw [← e, h4] at this; cases this
    · have := KQ.out.2.2; omega
    · have := KQ.out.2.2; omega)
  clear hrg0 hg0 hs0 c0 OW BU KQ hU hq0 hr
  go_loopw [6] (fun f wr => ∃ (fb : Bool) (left : Lit → Bool) (cnt : Nat) (y : Alm), f = .bool fb ∧ Hid (wr.ranges Try.prog 29 RI b r L.length D left cnt) ∧ Hid (wr.heap[q0]? = some (.cells #[.int .i64 0, .int .i64 0, .int .i64 0] 29 (0, 0)) ∧ wr.heap[q0 + 1]? = some (.cells #[.int .i64 y.1.1, .int .i64 y.1.2.1, .int .i64 y.1.2.2, .int .i64 y.2] 62 (0, 0))) ∧ Hid (NxI L left fb y) ∧ Hid (Below q0 w wr) ∧ Hid (q0 + 1 + 1 ≤ wr.heap.size)) (fun _ wr => wr.rangeLeft b r)
  case atStart => exact ⟨false, _, _, ((0, 0, 0), 0), rfl, RG0.out, ⟨KQ0.out.1, KQ0.out.2.1⟩, ⟨fun _ => ⟨fun a ha => (HR.out.has a.1 (HO.out a ha).1).2 ⟨a.2, ha⟩, rfl⟩, fun e => (by cases e)⟩, B0.out, KQ0.out.2.2⟩
  case round =>
    clear RG0 B0 KQ0
    obtain ⟨fb, left, cnt, ⟨⟨yo, yl, yk⟩, yt⟩, rfl, RG, KQ, HI, HB, HS⟩ := hrel
    go_wp2_with (first | (at_next; refine wpList_next_ranges _ rfl _ rfl 29 lawNm RI nmV (Value.int .i64) invKN invVI b r L.length D left cnt rfl RG.out (fun hc hl => Hid.out ?_) (fun x c kl z w1 cnt1 hkey hlk hv hat hrg1 hlt hgr hsz hen => Hid.out ?_)) | go_in)
    · refine aside ?_
      have ND := aside (HI.out.done HG.out hl)
      clear hc hl RG HI
      obtain ⟨z0, z1, z2⟩ := tri3 KQ.out.1
      have y0 := frozen_of_row _ _ 0 _ _ KQ.out.1
      have y1 := frozen_of_row _ _ 1 _ _ KQ.out.1
      have y2 := frozen_of_row _ _ 2 _ _ KQ.out.1
      have SX := aside (fun W (bb : Keeps (fun x => x = q0) wr W) => (show W.cell? ⟨q0 + 1, 0, none⟩ = some (.int .i64 yo) ∧ W.cell? ⟨q0 + 1, 1, none⟩ = some (.int .i64 yl) ∧ W.cell? ⟨q0 + 1, 2, none⟩ = some (.int .i64 yk) ∧ W.cell? ⟨q0 + 1, 3, none⟩ = some (.int .i64 yt) from four (blk_keep KQ.out.2 bb (by omega))))
      go_wp2_with fail
      refine wp_region_held_drew (S := fun W => (W.cell? ⟨q0 + 1, 0, none⟩ = some (.int .i64 yo) ∧ W.cell? ⟨q0 + 1, 1, none⟩ = some (.int .i64 yl) ∧ W.cell? ⟨q0 + 1, 2, none⟩ = some (.int .i64 yk) ∧ W.cell? ⟨q0 + 1, 3, none⟩ = some (.int .i64 yt)) ∧ Hid (Keeps (fun x => x = q0) wr W)) (by kernel_rfl) ⟨SX.out _ (Keeps.refl _ wr).drew, aside (Keeps.refl _ wr).drew⟩ (fun hHeld => ?_)
      refine wpAnyH_take (i := 0) (v := ?_) rfl (by kernel_rfl) (by kernel_rfl) (by kernel_rfl) (fun _ _ _ h => h) (Or.inl ⟨by rfl, ?_⟩) (by assumption) ?_
      rotate_left
      · intro w hSw
        go_simp
        try with_reducible rfl
      simp only [Act.put, List.getElem_toArray, List.getElem_cons_zero, List.setIfInBounds_toArray, List.set_cons_zero, List.set_cons_succ]
      refine wpAnyH_take (i := 1) (v := ?_) rfl (by kernel_rfl) (by kernel_rfl) (by kernel_rfl) (fun _ _ _ h => h) (Or.inl ⟨by rfl, ?_⟩) (by assumption) ?_
      rotate_left
      · intro w hSw
        go_simp
        try with_reducible rfl
      simp only [Act.put, List.getElem_toArray, List.getElem_cons_zero, List.getElem_cons_succ, List.setIfInBounds_toArray, List.set_cons_zero, List.set_cons_succ]
      refine wpAnyH_take (i := 2) (v := ?_) rfl (by kernel_rfl) (by kernel_rfl) (by kernel_rfl) (fun _ _ _ h => h) (Or.inl ⟨by rfl, ?_⟩) (by assumption) ?_
      rotate_left
      · intro w hSw
        go_simp
        try with_reducible rfl
      simp only [Act.put, List.getElem_toArray, List.getElem_cons_zero, List.getElem_cons_succ, List.setIfInBounds_toArray, List.set_cons_zero, List.set_cons_succ]
      refine wpAnyH_take (i := 3) (v := ?_) rfl (by kernel_rfl) (by kernel_rfl) (by kernel_rfl) (fun _ _ _ h => h) (Or.inl ⟨by rfl, ?_⟩) (by assumption) ?_
      rotate_left
      · intro w hSw
        go_simp
        try with_reducible rfl
      simp only [Act.put, List.getElem_toArray, List.getElem_cons_zero, List.getElem_cons_succ, List.setIfInBounds_toArray, List.set_cons_zero, List.set_cons_succ]
      refine wpAnyH_take (i := 4) (v := ?_) rfl (by kernel_rfl) (by kernel_rfl) (by kernel_rfl) (fun _ _ _ h => h) (Or.inl ⟨by rfl, ?_⟩) (by assumption) ?_
      rotate_left
      · intro w hSw
        go_simp
        try with_reducible rfl
      simp only [Act.put, List.getElem_toArray, List.getElem_cons_zero, List.getElem_cons_succ, List.setIfInBounds_toArray, List.set_cons_zero, List.set_cons_succ]
      refine wpAnyH_ready (rs := [5]) (by kernel_rfl) (by simp) ?_
      refine AllReadyH.cons rfl (fun K hK => ?_) AllReadyH.nil
      go_simp
      refine hK.out _ _ (⟨SX.out _ ((Keeps.refl _ wr).drew.trans (keeps_tri wr.drew q0 (.int .i64 yo) (.int .i64 yl) (.int .i64 yk))), aside ((Keeps.refl _ wr).drew.trans (keeps_tri wr.drew q0 (.int .i64 yo) (.int .i64 yl) (.int .i64 yk)))⟩) (fun hHeld => ?_)
      clear hK K 
      refine wpAnyH_take (i := 6) (v := ?_) rfl (by kernel_rfl) (by kernel_rfl) (by kernel_rfl) (fun _ _ _ h => h) (Or.inl ⟨by rfl, ?_⟩) (by assumption) ?_
      rotate_left
      · intro w hSw
        go_simp
        try with_reducible rfl
      simp only [Act.put, List.getElem_toArray, List.getElem_cons_zero, List.getElem_cons_succ, List.setIfInBounds_toArray, List.set_cons_zero, List.set_cons_succ]
      refine wpAnyH_take (i := 7) (v := ?_) rfl (by kernel_rfl) (by kernel_rfl) (by kernel_rfl) (fun _ _ _ h => h) (Or.inl ⟨by rfl, ?_⟩) (by assumption) ?_
      rotate_left
      · intro w hSw
        go_simp
        try with_reducible rfl
      simp only [Act.put, List.getElem_toArray, List.getElem_cons_zero, List.getElem_cons_succ, List.setIfInBounds_toArray, List.set_cons_zero, List.set_cons_succ]
      refine wpAnyH_done (by kernel_rfl) ?_ _
      have KF := set_tri (w := wr) KQ.out.1 (.int .i64 yo) (.int .i64 yl) (.int .i64 yk)
      have BF := aside (show Below q0 w _ from ((HB.out.trans ((keeps_tri wr q0 (.int .i64 yo) (.int .i64 yl) (.int .i64 yk)).below (B := q0) (by have := HS.out; omega) (fun k hk => by omega))).drew))
      clear hHeld SX
      go_wp2
      obtain ⟨f0, f1, f2⟩ := tri3 KF
      exact bodyPost_ret (v := .tuple #[.agg #[.int .i64 yo, .int .i64 yl, .int .i64 yk], .int .i64 yt, .bool fb]) (by simp [results, Try.results11, go_sem, f0, f1, f2]) rfl ⟨by rw [ND.out], by rw [HQ0.out]; exact BF.out⟩
    · refine aside ?_
      obtain ⟨hn, rfl, hxc⟩ := step_al HR.out hkey hv hat
      obtain ⟨xo, xl, xk⟩ := x
      simp only [nmV] at hen
      simp only [nmV]
      have HXC := aside hxc
      have W1 := aside (show w1.heap[q0]? = _ ∧ w1.heap[q0 + 1]? = _ ∧ q0 + 1 + 1 ≤ w1.heap.size ∧ Below q0 w w1 from ⟨(hgr.block _ (lt_of_blk KQ.out.1) (by have := NR.out.2.2; intro e; injection e with e; omega)).trans KQ.out.1, (hgr.block _ (lt_of_blk KQ.out.2) (by have := NR.out.2.2; intro e; injection e with e; omega)).trans KQ.out.2, by have := HS.out; omega, below_grown HB.out hgr (by have := HS.out; omega) (fun j e => by injection e with e; have := NR.out.2.2; omega)⟩)
      have RGK := aside (fun W (kk : Keeps (fun x => x = q0 + 1) w1 W) => ranges_keep hrg1 kk NR.out.1 NR.out.2.1)
      have LTK := aside (fun W (kk : Keeps (fun x => x = q0 + 1) w1 W) => (show W.rangeLeft b r < wr.rangeLeft b r from by rw [(ranges_keep hrg1 kk NR.out.1 NR.out.2.1).left_eq, RG.out.left_eq]; exact hlt))
      have QK := aside (fun W (kk : Keeps (fun x => x = q0 + 1) w1 W) => (show W.heap[q0]? = some (.cells #[.int .i64 0, .int .i64 0, .int .i64 0] 29 (0, 0)) ∧ q0 + 1 + 1 ≤ W.heap.size from ⟨blk_keep W1.out.1 kk (by omega), Nat.le_trans W1.out.2.2.1 kk.size⟩))
      have BK := aside (fun W (kk : Keeps (fun x => x = q0 + 1) w1 W) => (show Below q0 w W from W1.out.2.2.2.trans (kk.below (by have := W1.out.2.2.1; omega) (fun k hk => by omega))))
      obtain ⟨X2, hX2⟩ : ∃ X, (w1.alloc (.cells #[.int .i64 xo, .int .i64 xl, .int .i64 xk] 29)).alloc (.cells #[.int .i64 xo, .int .i64 xl, .int .i64 xk, .int .i64 c] 62) = X := ⟨_, rfl⟩
      obtain ⟨n9, hn9⟩ : ∃ n, w1.heap.size = n := ⟨_, rfl⟩
      have N2 := aside (show X2.heap[n9 + 1]? = some (.cells #[.int .i64 xo, .int .i64 xl, .int .i64 xk, .int .i64 c] 62 (0, 0)) from by
        rw [← hX2, ← hn9]
        have h9 := heap_alloc_new (w1.alloc (.cells #[.int .i64 xo, .int .i64 xl, .int .i64 xk] 29)) (.cells #[.int .i64 xo, .int .i64 xl, .int .i64 xk, .int .i64 c] 62)
        simpa using h9)
      have K2 := aside (show Keeps (fun x => x = q0 + 1) w1 X2 from by rw [← hX2]; exact ((Keeps.refl _ w1).alloc _).alloc _)
      have Q2 := aside (show X2.heap[q0 + 1]? = some (.cells #[.int .i64 yo, .int .i64 yl, .int .i64 yk, .int .i64 yt] 62 (0, 0)) from by rw [← hX2]; exact blk_on (blk_on W1.out.2.1 (bnew _ _)) (bnew _ _))
      clear hn hxc hkey hv hat hrg1 hlt hgr hsz hlk
      cases fb with
      | false =>
        have K3 := K2
        have Q3 := Q2
        have N3 := N2
        have Q4 := aside (set_four (w := X2) Q3.out (.int .i64 xo) (.int .i64 xl) (.int .i64 xk) (.int .i64 c))
        have K4 := aside (K3.out.trans (keeps_four X2 (q0 + 1) (.int .i64 xo) (.int .i64 xl) (.int .i64 xk) (.int .i64 c)))
        obtain ⟨v0, v1, v2, v3⟩ := four Q3.out
        have y0 := frozen_of_row _ _ 0 _ _ Q3.out
        have y1 := frozen_of_row _ _ 1 _ _ Q3.out
        have y2 := frozen_of_row _ _ 2 _ _ Q3.out
        have y3 := frozen_of_row _ _ 3 _ _ Q3.out
        obtain ⟨t0, t1, t2, t3⟩ := four N3.out
        go_wp2
        go_roundw
        case rel => exact ⟨true, _, cnt1, ((xo, xl, xk), c), rfl, RGK.out _ K4.out, ⟨(QK.out _ K4.out).1, Q4.out⟩, NxI.first HO.out HG.out HXC.out HI.out, BK.out _ K4.out, (QK.out _ K4.out).2⟩
        case measure => exact LTK.out _ K4.out
      | true =>
        obtain ⟨t0, t1, t2, t3⟩ := four N2.out
        obtain ⟨v0, v1, v2, v3⟩ := four Q2.out
        go_wp2_with fail
        refine (tcmp_any xo xl xk c yo yl yk yt _).mono ?_
        rintro e X3 ⟨rfl, os, hos⟩
        have BG := aside (show Below X2.heap.size X2 X3 from by rw [hos]; exact below_grow X2 os)
        have K3 := aside (K2.out.trans (Keeps.of_below BG.out _))
        have Q3 := aside (blk_on Q2.out BG.out)
        have N3 := aside (blk_on N2.out BG.out)
        clear hos t0 t1 t2 t3 v0 v1 v2 v3 hX2 hen
        obtain ⟨d, hd⟩ : ∃ d, acmp ((xo, xl, xk), c) ((yo, yl, yk), yt) = d := ⟨_, rfl⟩
        rw [hd]
        by_cases hlt : d < 0
        · have HLS := aside (show alt ((xo, xl, xk), c) ((yo, yl, yk), yt) from by unfold alt; rw [hd]; exact hlt)
          clear hd
          have Q4 := aside (set_four (w := X3) Q3.out (.int .i64 xo) (.int .i64 xl) (.int .i64 xk) (.int .i64 c))
          have K4 := aside (K3.out.trans (keeps_four X3 (q0 + 1) (.int .i64 xo) (.int .i64 xl) (.int .i64 xk) (.int .i64 c)))
          obtain ⟨v0, v1, v2, v3⟩ := four Q3.out
          have y0 := frozen_of_row _ _ 0 _ _ Q3.out
          have y1 := frozen_of_row _ _ 1 _ _ Q3.out
          have y2 := frozen_of_row _ _ 2 _ _ Q3.out
          have y3 := frozen_of_row _ _ 3 _ _ Q3.out
          obtain ⟨t0, t1, t2, t3⟩ := four N3.out
          go_wp2
          go_roundw
          case rel => exact ⟨true, _, cnt1, ((xo, xl, xk), c), rfl, RGK.out _ K4.out, ⟨(QK.out _ K4.out).1, Q4.out⟩, NxI.less HO.out HG.out HXC.out HI.out HLS.out, BK.out _ K4.out, (QK.out _ K4.out).2⟩
          case measure => exact LTK.out _ K4.out
        · have HLS := aside (show ¬ alt ((xo, xl, xk), c) ((yo, yl, yk), yt) from by unfold alt; rw [hd]; exact hlt)
          clear hd
          go_wp2
          go_roundw
          case rel => exact ⟨true, _, cnt1, ((yo, yl, yk), yt), rfl, RGK.out _ K3.out, ⟨(QK.out _ K3.out).1, Q3.out⟩, NxI.stay HO.out HG.out HXC.out HI.out HLS.out, BK.out _ K3.out, (QK.out _ K3.out).2⟩
          case measure => exact LTK.out _ K3.out

end Go.Proofs.Ytoajgacofmodoaa

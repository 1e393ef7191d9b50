/-
  The code's Put of an image.
-/
import Derived.Test.YtlbkcndmljlnmaaDoorBx19
import Derived.Test.YtlbkcndmljlnmaaDoorBx22
import Derived.LoopIn
namespace Go.Proofs.YtlbkcndmljlnmaaDoor
open Go.RowKit Go.Shelf
set_option linter.unusedVariables false
attribute [local go_sem] Oper.semAt_some
theorem kf_keeps {C : Nat} {S : Nat → Prop} {X Y : World} (k : Keeps S X Y) (hS : ∀ i, S i → ∃ cs T, X.heap[i]? = some (.cells cs T (0, 0))) : KeepsFrom C X Y :=
  ⟨k.size, fun i o hi ho hc => (k.block i (Array.getElem?_eq_some_iff.1 ho).1 (fun h => by
    obtain ⟨cs, T, e⟩ := hS i h
    rw [e] at ho
    cases ho
    cases hc)).trans ho⟩
/-- Which blocks a writer's call may turn, and of what kind they are. -/
theorem isW_cells {T B b : Nat} {g : Option Nat} {l : List UInt8} {w : World} (h : IsW T B b g l w) : ∀ i, (i = b ∨ g = some i) → ∃ cs U, w.heap[i]? = some (.cells cs U (0, 0)) ∧ (U = T ∨ U = 5) := by
  obtain ⟨h1, h2, v, h3, h4, h5⟩ := h
  intro i hi
  rcases hi with rfl | hi
  · exact ⟨_, _, h3, .inl rfl⟩
  · rcases h5.2 with ⟨rfl, -⟩ | ⟨g', cap, cur, rfl, hb, hg, -⟩
    · rw [hi] at h4; cases h4
    · rw [hi] at h4
      cases h4
      exact ⟨_, _, hg, .inr rfl⟩
theorem isW_ne {T B b : Nat} {g : Option Nat} {l : List UInt8} {w : World} (h : IsW T B b g l w) {i : Nat} {cs : Array Value} {U : TypeId} (hi : w.heap[i]? = some (.cells cs U (0, 0))) (h1 : U ≠ T) (h2 : U ≠ 5) : ¬ (i = b ∨ g = some i) := fun e => by
  obtain ⟨cs', U', h3, h4⟩ := isW_cells h i e
  rw [hi] at h3
  simp only [Option.some.injEq, Obj.cells.injEq] at h3
  rcases h4 with h4 | h4
  · exact h1 (h3.2.1.trans h4)
  · exact h2 (h3.2.1.trans h4)
theorem isW_own {T B b : Nat} {g : Option Nat} {l : List UInt8} {A C : World} {row : Option Nat} (h : IsW T B b g l A) (hg : A.grownBy C row) (hr : ∀ r, row = some r → ∃ o : Obj, A.heap[r]? = some o ∧ o.isCells = false) : IsW T B b g l C := by
  obtain ⟨h1, h2, v, h3, h4, h5⟩ := h
  exact ⟨h1, h2, v, cells_own h3 hg hr, h4, ownsRow_own h5 hg hr⟩
theorem Sto.other {w w' : World} {sb g tb : Nat} {nd ck : Int} {Ls : List En} (h : Sto w sb g tb nd ck Ls) {S : Nat → Prop} (k : Keeps S w w') (hS : ∀ {i : Nat} {cs : Array Value} {U : TypeId}, w.heap[i]? = some (.cells cs U (0, 0)) → (U = 105 ∨ U = 148 ∨ U = 150 ∨ U = 145) → ¬ S i) : Sto w' sb g tb nd ck Ls := by
  obtain ⟨T, n, hs, hH⟩ := h
  obtain ⟨p, ht, hT⟩ := hs.tree
  unfold TObjE at ht
  exact ⟨T, n, ⟨blk_keep hs.blk k (hS hs.blk (.inl rfl)), hs.cnt.keep k (fun b e => by cases e; exact hS (hs.cnt _ rfl) (.inr (.inr (.inl rfl)))), hs.tree.keep k (hS ht (.inr (.inl rfl))) (fun j cs' hj e => hS hj (.inr (.inr (.inr rfl))) e)⟩, hH⟩
/-- A store, a writer in a box of its own. -/
structure ImW (w : World) (sb g tb : Nat) (nd ck : Int) (Ls : List En) (xb wb : Nat) (l : List UInt8) (gg : Option Nat) (X : World) : Prop where
  s : Sto X sb g tb nd ck Ls
  bx : X.heap[xb]? = some (.cells #[.pointer (some ⟨wb, 0, none⟩)] 79 (0, 0))
  wr : IsW 119 w.heap.size wb gg l X
  bel : Below w.heap.size w X
section
variable {w : World} {sb g tb : Nat} {nd ck : Int} {Ls : List En} {xb wb : Nat} {l l' : List UInt8} {gg g' : Option Nat} {X Y : World}
theorem ImW.on (h : ImW w sb g tb nd ck Ls xb wb l gg X) (b : Below X.heap.size X Y) : ImW w sb g tb nd ck Ls xb wb l gg Y :=
  ⟨h.s.below b, blk_on h.bx b, h.wr.keep (Keeps.of_below b (fun _ => False)) (fun e => e) (fun _ _ e => e), bthen h.bel b⟩
theorem ImW.step (h : ImW w sb g tb nd ck Ls xb wb l gg X) (W' : IsW 119 w.heap.size wb g' l' Y) (k : Keeps (fun k => k = wb ∨ gg = some k) X Y) : ImW w sb g tb nd ck Ls xb wb l' g' Y :=
  ⟨h.s.other k (fun hi hU => isW_ne h.wr hi (by rcases hU with rfl | rfl | rfl | rfl <;> decide) (by rcases hU with rfl | rfl | rfl | rfl <;> decide)), blk_keep h.bx k (isW_ne h.wr h.bx (by decide) (by decide)), W', h.bel.trans (k.below h.bel.size (fun i hi e => by
    rcases e with e | e
    · have := h.wr.1; omega
    · have := (h.wr.row i e).1; omega))⟩
end
theorem kpT_wr {B wb : Nat} {gg : Option Nat} {l : List UInt8} {X Y : World} (h : IsW 119 B wb gg l X) (k : Keeps (fun k => k = wb ∨ gg = some k) X Y) : KpT X Y :=
  ⟨(Stay.refl _ X).keeps k (fun i cs hi => isW_ne h hi (by decide) (by decide)), (Stay.refl _ X).keeps k (fun i cs hi => isW_ne h hi (by decide) (by decide)), (Stay.refl _ X).keeps k (fun i cs hi => isW_ne h hi (by decide) (by decide))⟩
/-- What the loop over the entries keeps. -/
def ImI (w : World) (xb wb : Nat) (hd : List UInt8) (pre : List En) (X : World) : Prop := ∃ gg, X.heap[xb]? = some (.cells #[.pointer (some ⟨wb, 0, none⟩)] 79 (0, 0)) ∧ IsW 119 w.heap.size wb gg (hd ++ putsB pre) X ∧ Below w.heap.size w X
theorem wp_calmI {P : Program} {c : Code} {K : Act → World → Prop} {Q : Exit → Act → World → Prop} {a : Act} {w : World} (h : c.wp P (Exit.then K (fun _ _ _ => False)) a w) : c.wp P (Exit.then K Q) a w := by
  refine wp_mono h ?_
  intro e a' w' hq
  cases e with
  | normal => exact hq
  | exit id => exact hq.elim
  | goto l => exact hq.elim
  | ret => exact hq.elim
  | panic ch => exact hq.elim
  | outgrown => exact hq.elim
theorem list_getDI {α : Type} (d : α) : ∀ (l : List α), (List.range l.length).map (fun i => l.getD i d) = l
  | [] => rfl
  | x :: l => by
    rw [List.length_cons, List.range_succ_eq_map, List.map_cons, List.map_map]
    exact congrArg (x :: ·) (list_getDI d l)
set_option maxRecDepth 10000 in
theorem litA (t : Array Value) (h : t.size = 39) : ∃ f : Nat → Value, t = List.toArray (f 0 :: f 1 :: f 2 :: f 3 :: f 4 :: f 5 :: f 6 :: f 7 :: f 8 :: f 9 :: f 10 :: f 11 :: f 12 :: f 13 :: f 14 :: f 15 :: f 16 :: f 17 :: f 18 :: f 19 :: f 20 :: f 21 :: f 22 :: f 23 :: f 24 :: f 25 :: f 26 :: f 27 :: f 28 :: f 29 :: f 30 :: f 31 :: f 32 :: f 33 :: f 34 :: f 35 :: f 36 :: f 37 :: f 38 :: []) := by
  refine ⟨fun i => t.toList.getD i undef, ?_⟩
  have h1 := list_getDI undef t.toList
  rw [Array.length_toList, h] at h1
  have h2 : t = ((List.range 39).map (fun i => t.toList.getD i undef)).toArray := by rw [h1]
  exact h2
set_option maxHeartbeats 6400000 in
set_option maxRecDepth 100000 in
theorem imput {w : World} {sb g tb : Nat} {nd ck : Int} {Ls : List En} (h : Sto w sb g tb nd ck Ls) (hO : LdOk nd ck Ls) :
    Calls Tryd.prog 12 #[.pointer (some ⟨sb, 0, none⟩)] w fun e w' => ∃ v, e = .returned (.tuple #[v, .int .i64 0]) ∧ w'.ownsRow w.heap.size 5 1 v (imgB nd ck Ls).length (Lib.byteCells (imgB nd ck Ls)) ∧ Below w.heap.size w w' := by
  have HO := aside hO
  have CA := aside (qall ⟨#[]⟩ ⟨#[]⟩ true h (by have := hO.len; omega))
  have HS := aside h
  clear hO h
  refine (callsIn_wide (n := 5)).1 ?_
  refine callsIn_of_wp_marks Tryd.func12 rfl trivial ?_ rfl
  simp only [Tryd.ntmps12, List.size_toArray, List.length_cons, List.length_nil, Nat.reduceAdd, Nat.reduceSub, Array.replicate_succ, Array.replicate_zero, List.push_toArray, List.append_toArray, List.nil_append, List.cons_append]
  gi_wp2_with fail
  refine ⟨trivial, ?_⟩
  refine (callsIn_wide.2 (CA.out)).mono ?_
  rintro e w1 ⟨b1, ⟨h0, -⟩ | ⟨-, lb, rfl, hsq⟩⟩
  · exact absurd chk_whole h0
  have HQ := aside hsq
  have S1 := aside (HS.out.below b1)
  have B1 := aside b1
  clear b1 hsq CA HS
  gi_wp2_with fail
  refine ⟨trivial, ?_⟩
  refine (callsIn_wide.2 (newWriter_any w1)).mono ?_
  rintro e w2 ⟨rfl, rfl⟩
  have NB := bnew w1 (.cells #[.slice none 0 0] 119)
  have K1 := isW_new 119 w1.heap.size w1 (Nat.le_refl _)
  obtain ⟨wb, hwb⟩ : ∃ wb, w1.heap.size = wb := ⟨_, rfl⟩
  have HWB := aside hwb
  rw [hwb] at K1 ⊢
  obtain ⟨w2, hw2⟩ : ∃ w2, w1.alloc (.cells #[.slice none 0 0] 119) = w2 := ⟨_, rfl⟩
  rw [hw2] at K1 NB ⊢
  have NB2 := bnew w2 (.cells #[.pointer (some ⟨wb, 0, none⟩)] 79)
  have KX := heap_alloc_new w2 (.cells #[.pointer (some ⟨wb, 0, none⟩)] 79)
  have I := aside (show ImW w1 sb g tb nd ck Ls w2.heap.size wb [] none (w2.alloc (.cells #[.pointer (some ⟨wb, 0, none⟩)] 79)) from ⟨S1.out.below (bthen NB NB2), KX, by rw [HWB.out]; exact K1.keep (Keeps.of_below NB2 (fun _ => False)) (fun e => e) (fun _ _ e => e), bthen NB NB2⟩)
  clear NB NB2 K1 KX S1 hwb hw2
  gi_wp2_with fail
  obtain ⟨xb, hxb⟩ : ∃ xb, w2.heap.size = xb := ⟨_, rfl⟩
  rw [hxb] at I ⊢
  obtain ⟨w3, hw3⟩ : ∃ w3, w2.alloc (.cells #[.pointer (some ⟨wb, 0, none⟩)] 79) = w3 := ⟨_, rfl⟩
  rw [hw3] at I ⊢
  clear hxb hw3
  have c0 := cell_one I.out.bx
  gi_wp2_with fail
  refine ⟨trivial, ?_⟩
  refine (callsIn_wide.2 (wtext_any _ _ _ _ tideS w3 I.out.wr I.out.bel.size (by simp) (by decide))).mono ?_
  rintro e w4 ⟨rfl, g4, W4, fr4, k4⟩
  replace I := aside (I.out.step W4 k4)
  have HLN := aside (show ([] ++ (Nm.enc 8 tideS.size ++ tideS.data.toList)).length ≤ 1000 from by
    have h1 := (Nm.enc_length 8 tideS.size).2
    have h2 : tideS.data.toList.length = 4 := rfl
    simp only [List.length_append, List.length_nil]
    omega)
  clear c0 W4 fr4 k4
  gi_wp2_with fail
  refine wpIn_wide.2 (wp_calmI ?_)
  refine wp_region_held_drew (S := fun W => W.cell? ⟨xb, 0, none⟩ = some (.pointer (some ⟨wb, 0, none⟩))) (by kernel_rfl) (cell_one (I.out.on (Below.refl _ _).drew).bx) (fun hHeld => ?_)
  refine wpAnyH_take (i := 0) (v := ?_) rfl (by kernel_rfl) (by kernel_rfl) (by kernel_rfl) (fun _ _ _ h => h) (Or.inl ⟨by rfl, ?_⟩) (by assumption) ?_
  rotate_left
  · intro w hSw
    go_simp
    try with_reducible rfl
  simp only [Act.put, List.getElem_toArray, List.getElem_cons_zero, List.setIfInBounds_toArray, List.set_cons_zero, List.set_cons_succ]
  refine wpAnyH_take (i := 1) (v := ?_) rfl (by kernel_rfl) (by kernel_rfl) (by kernel_rfl) (fun _ _ _ h => h) (Or.inl ⟨by rfl, ?_⟩) (by assumption) ?_
  rotate_left
  · intro w hSw
    go_simp
    try with_reducible rfl
  simp only [Act.put, List.getElem_toArray, List.getElem_cons_zero, List.getElem_cons_succ, List.setIfInBounds_toArray, List.set_cons_zero, List.set_cons_succ]
  refine wpAnyH_ready (rs := [2]) (by kernel_rfl) (by simp) ?_
  refine AllReadyH.cons rfl (fun K hK => ?_) AllReadyH.nil
  go_simp
  refine (qnode (I.out.on (Below.refl _ _).drew).s).mono ?_
  rintro e w9 ⟨rfl, rfl⟩
  refine hK.out _ _ (cell_one (I.out.on (Below.refl _ _).drew).bx) (fun hHeld => ?_)
  clear hK K
  refine wpAnyH_ready (rs := [3]) (by kernel_rfl) (by simp) ?_
  refine AllReadyH.cons rfl (fun K hK => ?_) AllReadyH.nil
  go_simp
  refine (wnum_any _ _ _ _ nd _ (I.out.on (Below.refl _ _).drew).wr (I.out.on (Below.refl _ _).drew).bel.size (by have := HO.out.nd7; omega) (by have := HO.out.nd7; omega) (by have := HLN.out; simp only [List.length_append, List.length_nil] at this ⊢; omega)).mono ?_
  rintro e w5 ⟨rfl, g5, W9, fr9, k9⟩
  have I9 := (I.out.on (Below.refl _ _).drew).step W9 k9
  refine hK.out _ _ (cell_one I9.bx) (fun hHeld => ?_)
  clear hK K fr9 k9 W9
  refine wpAnyH_done (by kernel_rfl) ?_ _
  replace I := aside I9
  clear I9 hHeld
  replace HLN := aside (show (([] ++ (Nm.enc 8 tideS.size ++ tideS.data.toList)) ++ Nm.enc 8 (up nd)).length ≤ 2000 from by
    have h1 := (Nm.enc_length 8 (up nd)).2
    have h2 := HLN.out
    rw [List.length_append]
    omega)
  gi_wp2_with fail
  refine wpIn_wide.2 (wp_calmI ?_)
  refine wp_region_held_drew (S := fun W => W.cell? ⟨xb, 0, none⟩ = some (.pointer (some ⟨wb, 0, none⟩))) (by kernel_rfl) (cell_one (I.out.on (Below.refl _ _).drew).bx) (fun hHeld => ?_)
  refine wpAnyH_take (i := 0) (v := ?_) rfl (by kernel_rfl) (by kernel_rfl) (by kernel_rfl) (fun _ _ _ h => h) (Or.inl ⟨by rfl, ?_⟩) (by assumption) ?_
  rotate_left
  · intro w hSw
    go_simp
    try with_reducible rfl
  simp only [Act.put, List.getElem_toArray, List.getElem_cons_zero, List.setIfInBounds_toArray, List.set_cons_zero, List.set_cons_succ]
  refine wpAnyH_take (i := 1) (v := ?_) rfl (by kernel_rfl) (by kernel_rfl) (by kernel_rfl) (fun _ _ _ h => h) (Or.inl ⟨by rfl, ?_⟩) (by assumption) ?_
  rotate_left
  · intro w hSw
    go_simp
    try with_reducible rfl
  simp only [Act.put, List.getElem_toArray, List.getElem_cons_zero, List.getElem_cons_succ, List.setIfInBounds_toArray, List.set_cons_zero, List.set_cons_succ]
  refine wpAnyH_ready (rs := [2]) (by kernel_rfl) (by simp) ?_
  refine AllReadyH.cons rfl (fun K hK => ?_) AllReadyH.nil
  go_simp
  refine (qclock (I.out.on (Below.refl _ _).drew).s).mono ?_
  rintro e w9 ⟨rfl, rfl⟩
  refine hK.out _ _ (cell_one (I.out.on (Below.refl _ _).drew).bx) (fun hHeld => ?_)
  clear hK K
  refine wpAnyH_ready (rs := [3]) (by kernel_rfl) (by simp) ?_
  refine AllReadyH.cons rfl (fun K hK => ?_) AllReadyH.nil
  go_simp
  refine (wnum_any _ _ _ _ ck _ (I.out.on (Below.refl _ _).drew).wr (I.out.on (Below.refl _ _).drew).bel.size (by have := HO.out.c1; omega) (by have := HO.out.c0; omega) (by have := HLN.out; simp only [List.length_append, List.length_nil] at this ⊢; omega)).mono ?_
  rintro e w6 ⟨rfl, g6, W9, fr9, k9⟩
  have I9 := (I.out.on (Below.refl _ _).drew).step W9 k9
  refine hK.out _ _ (cell_one I9.bx) (fun hHeld => ?_)
  clear hK K fr9 k9 W9
  refine wpAnyH_done (by kernel_rfl) ?_ _
  replace I := aside I9
  clear I9 hHeld
  replace HLN := aside (show ((([] ++ (Nm.enc 8 tideS.size ++ tideS.data.toList)) ++ Nm.enc 8 (up nd)) ++ Nm.enc 8 (up ck)).length ≤ 3000 from by
    have h1 := (Nm.enc_length 8 (up ck)).2
    have h2 := HLN.out
    rw [List.length_append]
    omega)
  gi_wp2_with fail
  refine wpIn_wide.2 (wp_calmI ?_)
  refine wp_region_held_drew (S := fun W => W.cell? ⟨xb, 0, none⟩ = some (.pointer (some ⟨wb, 0, none⟩))) (by kernel_rfl) (cell_one (I.out.on (Below.refl _ _).drew).bx) (fun hHeld => ?_)
  refine wpAnyH_take (i := 0) (v := ?_) rfl (by kernel_rfl) (by kernel_rfl) (by kernel_rfl) (fun _ _ _ h => h) (Or.inl ⟨by rfl, ?_⟩) (by assumption) ?_
  rotate_left
  · intro w hSw
    go_simp
    try with_reducible rfl
  simp only [Act.put, List.getElem_toArray, List.getElem_cons_zero, List.setIfInBounds_toArray, List.set_cons_zero, List.set_cons_succ]
  refine wpAnyH_take (i := 1) (v := ?_) rfl (by kernel_rfl) (by kernel_rfl) (by kernel_rfl) (fun _ _ _ h => h) (Or.inl ⟨by rfl, ?_⟩) (by assumption) ?_
  rotate_left
  · intro w hSw
    go_simp
    try with_reducible rfl
  simp only [Act.put, List.getElem_toArray, List.getElem_cons_zero, List.getElem_cons_succ, List.setIfInBounds_toArray, List.set_cons_zero, List.set_cons_succ]
  refine wpAnyH_ready (rs := [2]) (by kernel_rfl) (by simp) ?_
  refine AllReadyH.cons rfl (fun K hK => ?_) AllReadyH.nil
  go_simp
  refine (qlen (I.out.on (Below.refl _ _).drew).s).mono ?_
  rintro e w9 ⟨rfl, rfl⟩
  refine hK.out _ _ (cell_one (I.out.on (Below.refl _ _).drew).bx) (fun hHeld => ?_)
  clear hK K
  refine wpAnyH_ready (rs := [3]) (by kernel_rfl) (by simp) ?_
  refine AllReadyH.cons rfl (fun K hK => ?_) AllReadyH.nil
  go_simp
  refine (wnum_any _ _ _ _ (Ls.length : Int) _ (I.out.on (Below.refl _ _).drew).wr (I.out.on (Below.refl _ _).drew).bel.size (by have := HO.out.len; omega) (by omega) (by have := HLN.out; simp only [List.length_append, List.length_nil] at this ⊢; omega)).mono ?_
  rintro e w7 ⟨rfl, g7, W9, fr9, k9⟩
  have I9 := (I.out.on (Below.refl _ _).drew).step W9 k9
  refine hK.out _ _ (cell_one I9.bx) (fun hHeld => ?_)
  clear hK K fr9 k9 W9
  refine wpAnyH_done (by kernel_rfl) ?_ _
  replace I := aside I9
  clear I9 hHeld
  have EH : ((([] ++ (Nm.enc 8 tideS.size ++ tideS.data.toList)) ++ Nm.enc 8 (up nd)) ++ Nm.enc 8 (up ck)) ++ Nm.enc 8 (up ((Ls.length : Nat) : Int)) = imgH nd ck Ls.length := by
    rw [upN]
    simp [imgH, strB, List.append_assoc]
  rw [EH] at I
  clear EH HLN
  obtain ⟨N, hN, hNl, hSq⟩ := HQ.out
  have HNN := aside hN
  have HHL := aside (imgH_len nd ck Ls.length)
  obtain ⟨hd, hhd⟩ : ∃ hd, imgH nd ck Ls.length = hd := ⟨_, rfl⟩
  have HHD := aside hhd
  rw [hhd] at I HHL
  clear hhd hN hNl
  have C1 : w1.heap.size ≤ w7.heap.size := I.out.bel.size
  have ownI : OwnFrom w7.heap.size (ImI w1 xb wb hd) := fun s A Y row hs hg hr => by
    obtain ⟨gg, h1, h2, h3⟩ := hs
    exact ⟨gg, cells_own h1 hg (fun r e => (hr r e).2), isW_own h2 hg (fun r e => (hr r e).2), ownFrom_below (β := Unit) (Nat.le_refl w1.heap.size) C1 () A Y row h3 hg hr⟩
  gi_wp2_with fail
  refine rangeO rfl (enters_of Tryd.func92 (by kernel_rfl) rfl) hSq KpT.t (fun W l o o' _ h ho => KpT.b W l o o' h ho) I.out.bel (fun _ => rfl)
    (ImI w1 xb wb hd) (fun _ _ _ => False) ownI (fun _ _ _ _ _ h => h.elim) ⟨_, I.out.bx, by rw [show putsB [] = [] from rfl, List.append_nil]; exact I.out.wr, I.out.bel⟩
    (fun x a' X => ∃ eb : Nat, a'.defers = [] ∧ a'.tmps.size = 39 ∧ a'.tmps[6]? = some (.pointer (some ⟨xb, 0, none⟩)) ∧ a'.tmps[7]? = some (.pointer (some ⟨eb, 0, none⟩)) ∧ X.heap[eb]? = some (.cells #[.string x.k, .int .i64 x.c, .int .i64 x.n, .string x.v, .bool x.d] 44 (0, 0)))
    (fun x a' _ A Y row hs hg hr => by
      obtain ⟨eb, h1, h2, h3, h4, h5⟩ := hs
      exact ⟨eb, h1, h2, h3, h4, cells_own h5 hg (fun r e => (hr r e).2)⟩) ?assign ?body ?done ?stop
  case assign =>
    intro l' pre x X K hi hK
    dsimp only [encE]
    gi_wp2
    refine hK _ _ ?_ ?_ ?_ ⟨_, rfl, rfl, rfl, rfl, heap_alloc_new X _⟩
    · exact KeepsFrom.of_grownBy (World.grownBy_alloc X _ none) (fun j e => by cases e)
    · exact (KpT.refl X).alloc _
    · exact ownI.alloc _ hi
  case body =>
    rintro l' pre x a' X ⟨gg, hbx, hwr, hbl⟩ ⟨eb, hdf, hsz, h6, h7, he⟩ hlen
    obtain ⟨tm, df⟩ := a'
    obtain ⟨f, hf⟩ := litA tm hsz
    dsimp only at hdf h6 h7
    subst hf hdf
    rw [show f 6 = _ from Option.some.inj h6, show f 7 = _ from Option.some.inj h7]
    clear h6 h7 hsz
    have x0 := cell_one hbx
    obtain ⟨⟨e0, e1, e2, e3, e4⟩, -⟩ := box5 he
    have HW := aside hwr
    have HB := aside hbl
    have HX := aside hbx
    have HLP := aside (show (hd ++ putsB pre).length ≤ 17592186044416 from by
      have h1 := putsB_58 pre
      have h2 := HHL.out
      have h3 := HNN.out
      rw [List.length_append]
      omega)
    clear hbx hwr hbl he
    gi_wp2_with fail
    refine ⟨trivial, ?_⟩
    refine (callsIn_wide.2 (put_any _ _ _ _ x.k x.c x.n x.v x.d X HW.out (by have := HB.out.size; omega) HLP.out)).mono ?_
    rintro e X1 ⟨rfl, g9, W9, fr9, k9⟩
    gi_wp2
    refine ⟨kf_keeps k9 (fun i hi => by obtain ⟨cs, U, h1, -⟩ := isW_cells HW.out i hi; exact ⟨cs, U, h1⟩), kpT_wr HW.out k9, g9, blk_keep HX.out k9 (isW_ne HW.out HX.out (by decide) (by decide)), ?_, ?_⟩
    · rw [putsB_snoc, ← List.append_assoc]
      exact W9
    · exact HB.out.trans (k9.below HB.out.size (fun i hi e => by
        rcases e with e | e
        · have := HW.out.1; omega
        · have := (HW.out.row i e).1; omega))
  case stop =>
    rintro D c pre X hD _ h
    exact h.elim
  case done =>
    rintro D xs X hD hxs ⟨gg, hbx, hwr, hbl⟩ hK
    have hall : xs = Ls := hxs.trans (thru_whole Ls)
    subst hall
    have x0 := cell_one hbx
    have HW := aside (show IsW 119 w1.heap.size wb gg (imgB nd ck xs) X from by
      rw [imgB_head, HHD.out, ← putsB_es xs HO.out.map.chk]
      exact hwr)
    have HB := aside hbl
    have HD := aside (show w1.heap.size ≤ D ∧ X.heap[D]? = some (.deferred (some [])) from ⟨Nat.le_trans C1 hD, hK⟩)
    clear hbx hwr hbl hD hK hxs
    gi_wp2_with fail
    refine ⟨trivial, ?_⟩
    refine (callsIn_wide.2 (bytes_any _ _ _ _ X HW.out (by have := img_len HO.out; omega))).mono ?_
    rintro e X1 ⟨v9, rfl, ho, kf⟩
    have HO9 := aside ho
    have HK9 := aside (blk_keep HD.out.2 kf (fun e => e))
    have HB9 := aside (bthen B1.out (HB.out.trans (kf.below HB.out.size (fun i hi e => e))))
    have HBS := aside (show w.heap.size ≤ X.heap.size from Nat.le_trans B1.out.size HB.out.size)
    clear ho kf
    gi_wp2
    have gr := grownBy_putObj' X1 D (.deferred none)
    refine ⟨by simp, .inl ⟨_, _, rfl, run_takeDeferred HK9.out, ?_⟩⟩
    exact ⟨.tuple #[v9, .int .i64 0], by simp [results, Tryd.f12, go_sem], v9, rfl, own_low (ownsRow_own HO9.out gr (fun r e => by cases e; exact ⟨_, HK9.out, rfl⟩)) HBS.out, HB9.out.grown gr HB9.out.size (fun k e => by cases e; have h1 := HD.out.1; have h2 := B1.out.size; omega)⟩
end Go.Proofs.YtlbkcndmljlnmaaDoor

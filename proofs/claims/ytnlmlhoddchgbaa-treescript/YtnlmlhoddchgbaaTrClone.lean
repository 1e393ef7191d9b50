/-
  A pair cloned: the rows of pointers grow, the pairs stay.
-/
import Derived.Test.YtnlmlhoddchgbaaTrWorld
import Derived.Test.YtnlmlhoddchgbaaTrOrders
namespace Go.Proofs.Ytnlmlhoddchgbaa
open Go.RowKit
set_option linter.unusedVariables false

theorem infoPA : (Try.prog.info? 37).map (fun i => (i.zero, i.size, i.bytes)) = some (some (.pointer none), 1, 8) := by kernel_rfl
theorem infoPB : (Try.prog.info? 38).map (fun i => (i.zero, i.size, i.bytes)) = some (some (.pointer none), 1, 8) := by kernel_rfl

/-- One pointer appended to an owned row of pointers. -/
theorem op_append_pA {w : World} {o : Oper} {act : Act} {K : Act → World → Prop} {Q : Exit → Act → World → Prop} (s x : Operand)
    (ho : o.op = .call { callee := .builtin .append, args := #[s, x], argTypes := #[32, 32] })
    (B n : Nat) (v : Value) (xs : List Value) (hs : act.eval s = v) (hown : w.ownsRow B 37 1 v n xs) (b c : Nat) (p : Option Addr) (hx : act.eval x = .slice (some ⟨b, 0, none⟩) 1 c)
    (hb : w.heap[b]? = some (.cells #[.pointer p] 37 (0, 0))) (hlen : n ≤ 4) (hB : B ≤ w.heap.size)
    (h : ∀ g cap w', w'.ownsRow B 37 1 (.slice (some ⟨g, 0, none⟩) (n + 1) cap) (n + 1) (xs ++ [.pointer p]) → w.grownBy w' v.ownBlock → K (act.put o.dst (.slice (some ⟨g, 0, none⟩) (n + 1) cap)) w') : o.wp Try.prog act w K Q := by
  obtain ⟨i0, hi, hz0, hz1, hz2⟩ := info_parts infoPA
  refine wp_append_own w s x _ ho B 37 i0 _ 1 8 Try.underlying32 hi hz0 hz1 hz2 rfl (by decide) _ _ _ hs hown ⟨b, 0, none⟩ 1 c [.pointer p] hx rfl ?_ (by simp [Value.oneCell']) (by unfold maxLen; omega) (by omega) hB ?_
  · exact World.news_of_block (cs := #[.pointer p]) (t := 37) (fr := (0, 0)) hb
  · intro v' w' ho' hg _
    rcases ho'.2 with ⟨h1, h2⟩ | ⟨g, cap', cur, rfl, _⟩
    · omega
    · exact h g cap' w' ho' hg

theorem op_append_pB {w : World} {o : Oper} {act : Act} {K : Act → World → Prop} {Q : Exit → Act → World → Prop} (s x : Operand)
    (ho : o.op = .call { callee := .builtin .append, args := #[s, x], argTypes := #[33, 33] })
    (B n : Nat) (v : Value) (xs : List Value) (hs : act.eval s = v) (hown : w.ownsRow B 38 1 v n xs) (b c : Nat) (p : Option Addr) (hx : act.eval x = .slice (some ⟨b, 0, none⟩) 1 c)
    (hb : w.heap[b]? = some (.cells #[.pointer p] 38 (0, 0))) (hlen : n ≤ 4) (hB : B ≤ w.heap.size)
    (h : ∀ g cap w', w'.ownsRow B 38 1 (.slice (some ⟨g, 0, none⟩) (n + 1) cap) (n + 1) (xs ++ [.pointer p]) → w.grownBy w' v.ownBlock → K (act.put o.dst (.slice (some ⟨g, 0, none⟩) (n + 1) cap)) w') : o.wp Try.prog act w K Q := by
  obtain ⟨i0, hi, hz0, hz1, hz2⟩ := info_parts infoPB
  refine wp_append_own w s x _ ho B 38 i0 _ 1 8 Try.underlying33 hi hz0 hz1 hz2 rfl (by decide) _ _ _ hs hown ⟨b, 0, none⟩ 1 c [.pointer p] hx rfl ?_ (by simp [Value.oneCell']) (by unfold maxLen; omega) (by omega) hB ?_
  · exact World.news_of_block (cs := #[.pointer p]) (t := 38) (fr := (0, 0)) hb
  · intro v' w' ho' hg _
    rcases ho'.2 with ⟨h1, h2⟩ | ⟨g, cap', cur, rfl, _⟩
    · omega
    · exact h g cap' w' ho' hg

/-- The world while a pair is cloned: what its block says, the two rows as they are now, the pairs, and, where it stands already, the clone. -/
structure CS (w W : World) (wb : Nat) (v0 v1 vA vB : Value) (xA xB : List Value) (P : Nat → Pairs) (n m : Nat) : Prop where
  below : Below w.heap.size w W
  blk : W.heap[wb]? = some (.cells #[v0, v1] 35 (0, 0))
  rowA : W.ownsRow w.heap.size 37 1 vA xA.length xA
  rowB : W.ownsRow w.heap.size 38 1 vB xB.length xB
  lo : w.heap.size ≤ wb
  prs : ∀ j, j < n → Pr W (P j).tb (P j).A (P j).rb (P j).l m ∧ w.heap.size ≤ (P j).tb ∧ w.heap.size ≤ (P j).rb
  ne : ∀ i j, i < n → j < n → i ≠ j → (P i).tb ≠ (P j).tb ∧ (P i).rb ≠ (P j).rb

theorem CS.on {w W W' : World} {wb n m : Nat} {v0 v1 vA vB : Value} {xA xB : List Value} {P : Nat → Pairs} (h : CS w W wb v0 v1 vA vB xA xB P n m) (b : Below W.heap.size W W') : CS w W' wb v0 v1 vA vB xA xB P n m :=
  ⟨bthen h.below b, blk_on h.blk b, own_on h.rowA b, own_on h.rowB b, h.lo, fun j hj => ⟨(h.prs j hj).1.on b, (h.prs j hj).2⟩, h.ne⟩

theorem WS.cs {w W : World} {wb ga ca gb cb n m : Nat} {P : Nat → Pairs} (h : WS w W wb ga ca gb cb P n m) : CS w W wb (.slice (some ⟨ga, 0, none⟩) n ca) (.slice (some ⟨gb, 0, none⟩) n cb) (.slice (some ⟨ga, 0, none⟩) n ca) (.slice (some ⟨gb, 0, none⟩) n cb) (ptrA P n) (ptrB P n) P n m :=
  ⟨h.below, h.blk, by rw [show (ptrA P n).length = n from by simp [ptrA]]; exact h.rowA, by rw [show (ptrB P n).length = n from by simp [ptrB]]; exact h.rowB, h.lo, h.prs, h.ne⟩

theorem own_keepT {S : Nat → Prop} {W W' : World} {B n : Nat} {e : TypeId} {v : Value} {xs : List Value} (h : W.ownsRow B e 1 v n xs) (k : Keeps S W W') (hS : ∀ i cs, W.heap[i]? = some (.cells cs e (0, 0)) → ¬ S i) : W'.ownsRow B e 1 v n xs := by
  refine ownsRow_keep h k (fun j hj => ?_)
  rcases h.2 with ⟨rfl, -⟩ | ⟨g, cap, cur, rfl, -, hg, -⟩
  · cases hj
  · injection hj with hj
    subst hj
    exact hS _ cur hg

/-- The first row has grown. -/
theorem CS.growA {w W W' : World} {wb n m : Nat} {v0 v1 vA vA' vB : Value} {xA xA' xB : List Value} {P : Nat → Pairs} (h : CS w W wb v0 v1 vA vB xA xB P n m) (g : W.grownBy W' vA.ownBlock) (r : W'.ownsRow w.heap.size 37 1 vA' xA'.length xA') : CS w W' wb v0 v1 vA' vB xA' xB P n m := by
  have kk : Keeps (fun k => vA.ownBlock = some k) W W' := (Keeps.refl _ W).grown g (fun k e _ => e)
  have hT : ∀ i cs t, W.heap[i]? = some (.cells cs t (0, 0)) → t ≠ 37 → ¬ vA.ownBlock = some i := by
    intro i cs t hi ht e
    rcases h.rowA.2 with ⟨rfl, -⟩ | ⟨ga, cap, cur, rfl, -, hg, -⟩
    · cases e
    · injection e with e
      subst e
      exact ty_ne hi hg ht rfl
  refine ⟨h.below.trans (kk.below h.below.size (fun i hi e => by have := (h.rowA.lt i e).1; omega)), blk_keep h.blk kk (hT _ _ _ h.blk (by decide)), r, own_keepT h.rowB kk (fun i cs e => hT _ _ _ e (by decide)), h.lo, fun j hj => ⟨?_, (h.prs j hj).2⟩, h.ne⟩
  have pj := (h.prs j hj).1
  obtain ⟨c1, e1⟩ := pj.tree.blk
  obtain ⟨c2, e2⟩ := pj.ref.blk
  refine pj.keep kk (hT _ _ _ e1 (by decide)) (hT _ _ _ e2 (by decide)) (fun i cs t hi ht => ?_)
  rcases ht with rfl | rfl
  · exact hT _ _ _ hi (by decide)
  · exact hT _ _ _ hi (by decide)

theorem CS.growB {w W W' : World} {wb n m : Nat} {v0 v1 vA vB vB' : Value} {xA xB xB' : List Value} {P : Nat → Pairs} (h : CS w W wb v0 v1 vA vB xA xB P n m) (g : W.grownBy W' vB.ownBlock) (r : W'.ownsRow w.heap.size 38 1 vB' xB'.length xB') : CS w W' wb v0 v1 vA vB' xA xB' P n m := by
  have kk : Keeps (fun k => vB.ownBlock = some k) W W' := (Keeps.refl _ W).grown g (fun k e _ => e)
  have hT : ∀ i cs t, W.heap[i]? = some (.cells cs t (0, 0)) → t ≠ 38 → ¬ vB.ownBlock = some i := by
    intro i cs t hi ht e
    rcases h.rowB.2 with ⟨rfl, -⟩ | ⟨ga, cap, cur, rfl, -, hg, -⟩
    · cases e
    · injection e with e
      subst e
      exact ty_ne hi hg ht rfl
  refine ⟨h.below.trans (kk.below h.below.size (fun i hi e => by have := (h.rowB.lt i e).1; omega)), blk_keep h.blk kk (hT _ _ _ h.blk (by decide)), own_keepT h.rowA kk (fun i cs e => hT _ _ _ e (by decide)), r, h.lo, fun j hj => ⟨?_, (h.prs j hj).2⟩, h.ne⟩
  have pj := (h.prs j hj).1
  obtain ⟨c1, e1⟩ := pj.tree.blk
  obtain ⟨c2, e2⟩ := pj.ref.blk
  refine pj.keep kk (hT _ _ _ e1 (by decide)) (hT _ _ _ e2 (by decide)) (fun i cs t hi ht => ?_)
  rcases ht with rfl | rfl
  · exact hT _ _ _ hi (by decide)
  · exact hT _ _ _ hi (by decide)

/-- A tree of its own stays where the first or the second row grows. -/
theorem CS.treeB {w W W' : World} {wb n m tb : Nat} {v0 v1 vA vB jv : Value} {xA xB : List Value} {P : Nat → Pairs} {T : Tr Int Mp} (h : CS w W wb v0 v1 vA vB xA xB P n m) (t : TreeM W tb jv T) {v : Value} {e : TypeId} {n' : Nat} {xs : List Value} {B : Nat} (hv : W.ownsRow B e 1 v n' xs) (g : W.grownBy W' v.ownBlock) (h1 : e ≠ 87) (h2 : e ≠ 94) : TreeM W' tb jv T := by
  have kk : Keeps (fun k => v.ownBlock = some k) W W' := (Keeps.refl _ W).grown g (fun k e _ => e)
  have hT : ∀ i cs t, W.heap[i]? = some (.cells cs t (0, 0)) → t ≠ e → ¬ v.ownBlock = some i := by
    intro i cs t hi ht e'
    rcases hv.2 with ⟨rfl, -⟩ | ⟨ga, cap, cur, rfl, -, hg, -⟩
    · cases e'
    · injection e' with e'
      subst e'
      exact ty_ne hi hg ht rfl
  obtain ⟨c1, e1⟩ := t.blk
  exact t.keep kk (hT _ _ _ e1 (Ne.symm h1)) (fun i cs hi => hT _ _ _ hi (Ne.symm h2))

theorem RT.grow {W W' : World} {rb : Nat} {l : List RowR} (t : RT W rb l) {v : Value} {e : TypeId} {n' : Nat} {xs : List Value} {B : Nat} (hv : W.ownsRow B e 1 v n' xs) (g : W.grownBy W' v.ownBlock) (h1 : e ≠ 83) (h2 : e ≠ 64) : RT W' rb l := by
  have kk : Keeps (fun k => v.ownBlock = some k) W W' := (Keeps.refl _ W).grown g (fun k e _ => e)
  have hT : ∀ i cs t, W.heap[i]? = some (.cells cs t (0, 0)) → t ≠ e → ¬ v.ownBlock = some i := by
    intro i cs t hi ht e'
    rcases hv.2 with ⟨rfl, -⟩ | ⟨ga, cap, cur, rfl, -, hg, -⟩
    · cases e'
    · injection e' with e'
      subst e'
      exact ty_ne hi hg ht rfl
  obtain ⟨c1, e1⟩ := t.blk
  exact t.keep kk (hT _ _ _ e1 (Ne.symm h1)) (fun i cs hi => hT _ _ _ hi (Ne.symm h2))

/-- The world's block was written: the clone is in. -/
theorem CS.done {w W : World} {wb n m k tb rb gA cA gB cB : Nat} {v0 v1 : Value} {P : Nat → Pairs} (h : CS w W wb v0 v1 (.slice (some ⟨gA, 0, none⟩) (n + 1) cA) (.slice (some ⟨gB, 0, none⟩) (n + 1) cB) (ptrA P n ++ [.pointer (some ⟨tb, 0, none⟩)]) (ptrB P n ++ [.pointer (some ⟨rb, 0, none⟩)]) P n m)
    (hk : k < n) (hn : n < 4) (ht : TreeM W tb (.func (.func 15) #[] #[]) (P k).A) (hr : RT W rb (P k).l) (lt : w.heap.size ≤ tb) (lr : w.heap.size ≤ rb) (nt : ∀ j, j < n → (P j).tb ≠ tb) (nr : ∀ j, j < n → (P j).rb ≠ rb) :
    WS w ((W.setCell ⟨wb, 0, none⟩ (.slice (some ⟨gA, 0, none⟩) (n + 1) cA)).setCell ⟨wb, 1, none⟩ (.slice (some ⟨gB, 0, none⟩) (n + 1) cB)) wb gA cA gB cB (upd P n ⟨tb, (P k).A, rb, (P k).l⟩) (n + 1) m := by
  have kk : Keeps (fun y => y = wb) W ((W.setCell ⟨wb, 0, none⟩ (.slice (some ⟨gA, 0, none⟩) (n + 1) cA)).setCell ⟨wb, 1, none⟩ (.slice (some ⟨gB, 0, none⟩) (n + 1) cB)) := ((Keeps.refl (fun y => y = wb) W).setCell (p := ⟨wb, 0, none⟩) (fun _ => rfl) _).setCell (p := ⟨wb, 1, none⟩) (fun _ => rfl) _
  have hT : ∀ i cs t, W.heap[i]? = some (.cells cs t (0, 0)) → t ≠ 35 → ¬ i = wb := fun i cs t hi ht e => ty_ne hi h.blk ht e
  have hP : ∀ {tb' rb' m' : Nat} {A : Tr Int Mp} {l : List RowR}, Pr W tb' A rb' l m' → Pr ((W.setCell ⟨wb, 0, none⟩ (.slice (some ⟨gA, 0, none⟩) (n + 1) cA)).setCell ⟨wb, 1, none⟩ (.slice (some ⟨gB, 0, none⟩) (n + 1) cB)) tb' A rb' l m' := by
    intro tb' rb' m' A l pj
    obtain ⟨c1, e1⟩ := pj.tree.blk
    obtain ⟨c2, e2⟩ := pj.ref.blk
    refine pj.keep kk (hT _ _ _ e1 (by decide)) (hT _ _ _ e2 (by decide)) (fun i cs t hi ht => ?_)
    rcases ht with rfl | rfl
    · exact hT _ _ _ hi (by decide)
    · exact hT _ _ _ hi (by decide)
  have eA : ptrA (upd P n ⟨tb, (P k).A, rb, (P k).l⟩) (n + 1) = ptrA P n ++ [.pointer (some ⟨tb, 0, none⟩)] := by
    unfold ptrA
    rw [List.range_succ, List.map_append]
    refine congr (congrArg _ (List.map_congr_left (fun j hj => ?_))) ?_
    · have : j ≠ n := by have := List.mem_range.1 hj; omega
      unfold upd; rw [if_neg this]
    · simp [upd]
  have eB : ptrB (upd P n ⟨tb, (P k).A, rb, (P k).l⟩) (n + 1) = ptrB P n ++ [.pointer (some ⟨rb, 0, none⟩)] := by
    unfold ptrB
    rw [List.range_succ, List.map_append]
    refine congr (congrArg _ (List.map_congr_left (fun j hj => ?_))) ?_
    · have : j ≠ n := by have := List.mem_range.1 hj; omega
      unfold upd; rw [if_neg this]
    · simp [upd]
  have lA : (ptrA P n ++ [Value.pointer (some ⟨tb, 0, none⟩)]).length = n + 1 := by simp [ptrA]
  have lB : (ptrB P n ++ [Value.pointer (some ⟨rb, 0, none⟩)]).length = n + 1 := by simp [ptrB]
  have rA := h.rowA
  have rB := h.rowB
  rw [lA] at rA
  rw [lB] at rB
  refine ⟨h.below.trans (kk.below h.below.size (fun i hi e => by have := h.lo; omega)), two_setCell h.blk, ?_, ?_, h.lo, ?_, ?_, by omega, by omega⟩
  · rw [eA]; exact own_keepT rA kk (fun i cs e => hT _ _ _ e (by decide))
  · rw [eB]; exact own_keepT rB kk (fun i cs e => hT _ _ _ e (by decide))
  · intro j hj
    by_cases e : j = n
    · have : upd P n ⟨tb, (P k).A, rb, (P k).l⟩ j = ⟨tb, (P k).A, rb, (P k).l⟩ := by unfold upd; rw [if_pos e]
      rw [this]
      exact ⟨hP ⟨ht, (h.prs k hk).1.gd, hr, (h.prs k hk).1.rows⟩, lt, lr⟩
    · have : upd P n ⟨tb, (P k).A, rb, (P k).l⟩ j = P j := by unfold upd; rw [if_neg e]
      rw [this]
      have pj := h.prs j (by omega)
      exact ⟨hP pj.1, pj.2⟩
  · intro i j hi hj e
    by_cases ei : i = n
    · have ej : j ≠ n := by omega
      unfold upd
      rw [if_pos ei, if_neg ej]
      exact ⟨fun q => nt j (by omega) q.symm, fun q => nr j (by omega) q.symm⟩
    · by_cases ej : j = n
      · unfold upd
        rw [if_pos ej, if_neg ei]
        exact ⟨nt i (by omega), nr i (by omega)⟩
      · unfold upd
        rw [if_neg ei, if_neg ej]
        exact h.ne i j (by omega) (by omega) e

end Go.Proofs.Ytnlmlhoddchgbaa

/-
  Trees in memory (M): nodes and what they hold, rows and levels.
  both (M): it joins; what it defers does nothing where the join returns.
  hang (M): a node of a row and two trees.
  hang (M), a case.
  hang (M), a case.
  hang (M), a case.
  hang (M), a case.
  hang (M).
-/
import Derived.Test.YtnlmlhoddchgbaaTrBase
import Derived.Defers
import Derived.Recover
import Derived.Deep.RegionHeld
import Derived.OrdersHeld
import Derived.Deep.RegionWith
import Derived.Deep.RegionHeld3
import Derived.Test.YtnlmlhoddchgbaaTrCost
namespace Go.Proofs.Ytnlmlhoddchgbaa
open Go.RowKit
set_option linter.unusedVariables false

/-- p points to the tree t. -/
def IsTM (w : World) : Option Addr → Tr Int Mp → Prop
  | p, .nil => p = none
  | p, .node l k v s r => ∃ b lp rp, p = some ⟨b, 0, none⟩ ∧ w.heap[b]? = some (.cells #[.string k, .int .i64 v, .int .u64 s.a, .int .u64 s.b, .pointer lp, .pointer rp, .int .i64 ((Tr.node l k v s r).cnt : Int), .int .i64 ((Tr.node l k v s r).ht : Int), .int .u64 ((Tr.node l k v s r).sum mJoin mZero).a, .int .u64 ((Tr.node l k v s r).sum mJoin mZero).b] 94 (0, 0)) ∧ IsTM w lp l ∧ IsTM w rp r

theorem IsTM.stay {w w' : World} (h : Stay 94 w w') : ∀ (t : Tr Int Mp) (p : Option Addr), IsTM w p t → IsTM w' p t
  | .nil, _, e => e
  | .node l k v s r, _, ⟨b, lp, rp, e, hb, hl, hr⟩ => ⟨b, lp, rp, e, h _ _ hb, IsTM.stay h l lp hl, IsTM.stay h r rp hr⟩

theorem IsTM.on {w w' : World} {p : Option Addr} {t : Tr Int Mp} (i : IsTM w p t) (h : Stay 94 w w') : IsTM w' p t := IsTM.stay h t p i

theorem IsTM.isNil {w : World} {t : Tr Int Mp} {p : Option Addr} (h : IsTM w p t) : t.isNil = p.isNone := by
  cases t with
  | nil => rw [show p = none from h]; rfl
  | node l k v s r => obtain ⟨b, lp, rp, rfl, _⟩ := h; rfl

theorem nodeM {w : World} {b : Nat} {k : ByteArray} {v : Int} {s : Mp} {lp rp : Option Addr} {c h : Int} {q : Mp} (hb : w.heap[b]? = some (.cells #[.string k, .int .i64 v, .int .u64 s.a, .int .u64 s.b, .pointer lp, .pointer rp, .int .i64 c, .int .i64 h, .int .u64 q.a, .int .u64 q.b] 94 (0, 0))) :
    w.cell? ⟨b, 0, none⟩ = some (.string k) ∧ w.cell? ⟨b, 1, none⟩ = some (.int .i64 v) ∧ w.cell? ⟨b, 2, none⟩ = some (.int .u64 s.a) ∧ w.cell? ⟨b, 3, none⟩ = some (.int .u64 s.b) ∧ w.cell? ⟨b, 4, none⟩ = some (.pointer lp) ∧ w.cell? ⟨b, 5, none⟩ = some (.pointer rp) ∧ w.cell? ⟨b, 6, none⟩ = some (.int .i64 c) ∧ w.cell? ⟨b, 7, none⟩ = some (.int .i64 h) ∧ w.cell? ⟨b, 8, none⟩ = some (.int .u64 q.a) ∧ w.cell? ⟨b, 9, none⟩ = some (.int .u64 q.b) := by
  simp [World.cell?, hb]

theorem IsTM.two {w : World} {t : Tr Int Mp} {p : Option Addr} (h : IsTM w p t) : (p = none ∧ t = .nil) ∨ ∃ b, p = some ⟨b, 0, none⟩ ∧ t.isNil = false := by
  cases t with
  | nil => exact .inl ⟨h, rfl⟩
  | node l k v s r => obtain ⟨b, lp, rp, rfl, _⟩ := h; exact .inr ⟨b, rfl, rfl⟩

theorem sumAtM {w : World} {b : Nat} {t : Tr Int Mp} (h : IsTM w (some ⟨b, 0, none⟩) t) : w.cell? ⟨b, 8, none⟩ = some (.int .u64 (t.sum mJoin mZero).a) ∧ w.cell? ⟨b, 9, none⟩ = some (.int .u64 (t.sum mJoin mZero).b) := by
  cases t with
  | nil => cases (show some _ = none from h)
  | node l k v s r =>
    obtain ⟨b', lp, rp, e, hb, _⟩ := h
    injection e with e
    injection e with e _ _
    subst e
    simp [World.cell?, hb]

theorem nodePlM {w : World} {b : Nat} {k : ByteArray} {v : Int} {s : Mp} {lp rp : Option Addr} {c h : Int} {q : Mp} (hb : w.heap[b]? = some (.cells #[.string k, .int .i64 v, .int .u64 s.a, .int .u64 s.b, .pointer lp, .pointer rp, .int .i64 c, .int .i64 h, .int .u64 q.a, .int .u64 q.b] 94 (0, 0))) : w.cell? ⟨b, 4, none⟩ = some (.pointer lp) := by simp [World.cell?, hb]
theorem nodePrM {w : World} {b : Nat} {k : ByteArray} {v : Int} {s : Mp} {lp rp : Option Addr} {c h : Int} {q : Mp} (hb : w.heap[b]? = some (.cells #[.string k, .int .i64 v, .int .u64 s.a, .int .u64 s.b, .pointer lp, .pointer rp, .int .i64 c, .int .i64 h, .int .u64 q.a, .int .u64 q.b] 94 (0, 0))) : w.cell? ⟨b, 5, none⟩ = some (.pointer rp) := by simp [World.cell?, hb]

/-- A tree's own block: it holds its join jv and its root. -/
def TObjM (w : World) (tb : Nat) (jv : Value) (root : Option Addr) : Prop := w.heap[tb]? = some (.cells #[.int .u64 1, .int .u64 0, jv, .pointer root] 87 (0, 0))

theorem TObjM.onC {w w' : World} {tb n : Nat} {jv : Value} {root : Option Addr} {c : Option Nat} (h : TObjM w tb jv root) (hc : Cnt c n w) (k : Keeps (OnC c) w w') : TObjM w' tb jv root := blk_keep h k (hc.apart h (by decide))

theorem tobjM {w : World} {tb : Nat} {jv : Value} {root : Option Addr} (h : TObjM w tb jv root) :
    w.cell? ⟨tb, 0, none⟩ = some (.int .u64 1) ∧ w.cell? ⟨tb, 1, none⟩ = some (.int .u64 0) ∧ w.cell? ⟨tb, 2, none⟩ = some (jv) ∧ w.cell? ⟨tb, 3, none⟩ = some (.pointer root) ∧ w.frozen? ⟨tb, 3, none⟩ = false := by
  unfold TObjM at h
  simp [World.cell?, World.frozen?, h]

set_option maxHeartbeats 1600000 in
theorem rowsM {w : World} {p : Option Addr} {t : Tr Int Mp} (h : IsTM w p t) :
    Calls Try.prog 54 #[.pointer p] w fun e w' => e = .returned (.int .i64 (t.cnt : Int)) ∧ w' = w := by
  cases t with
  | nil =>
    obtain rfl : p = none := h
    go_enter Try.func54, Try.ntmps54
    go_wp2
    go_ret
    exact ⟨rfl, rfl⟩
  | node l k v s r =>
    obtain ⟨b, lp, rp, rfl, hb, _, _⟩ := h
    have hn := nodeM hb
    obtain ⟨-, -, -, -, -, -, h, -, -, -⟩ := hn
    clear hb
    generalize ((Tr.node l k v s r).cnt : Int) = c at *
    go_enter Try.func54, Try.ntmps54
    go_wp2
    go_ret
    exact ⟨rfl, rfl⟩

set_option maxHeartbeats 1600000 in
theorem levelsM {w : World} {p : Option Addr} {t : Tr Int Mp} (h : IsTM w p t) :
    Calls Try.prog 71 #[.pointer p] w fun e w' => e = .returned (.int .i64 (t.ht : Int)) ∧ w' = w := by
  cases t with
  | nil =>
    obtain rfl : p = none := h
    go_enter Try.func71, Try.ntmps71
    go_wp2
    go_ret
    exact ⟨rfl, rfl⟩
  | node l k v s r =>
    obtain ⟨b, lp, rp, rfl, hb, _, _⟩ := h
    have hn := nodeM hb
    obtain ⟨-, -, -, -, -, -, -, h, -, -⟩ := hn
    clear hb
    generalize ((Tr.node l k v s r).ht : Int) = c at *
    go_enter Try.func71, Try.ntmps71
    go_wp2
    go_ret
    exact ⟨rfl, rfl⟩

end Go.Proofs.Ytnlmlhoddchgbaa
namespace Go.Proofs.Ytnlmlhoddchgbaa
open Go.RowKit
set_option linter.unusedVariables false

/-- both joins, and counts where the join counts. -/
def BothOkM (jv : Value) (c : Option Nat) : Prop :=
  ∀ (W : World) (tb n : Nat) (root : Option Addr) (a b : Mp), TObjM W tb jv root → Cnt c n W → mSz a + mSz b ≤ 4611686018427387904 →
    Calls Try.prog 72 #[.pointer (some ⟨tb, 0, none⟩), .agg #[.int .u64 a.a, .int .u64 a.b], .agg #[.int .u64 b.a, .int .u64 b.b]] W fun e w' => e = .returned (.agg #[.int .u64 (mJoin a b).a, .int .u64 (mJoin a b).b]) ∧ Cnt c (n + 1) w' ∧ Keeps (OnC c) W w'

theorem catch_idleM (p q : Addr) (w : World) :
    CallsD Try.prog 86 #[.pointer (some p), .pointer (some q)] .returning w fun e u' w' => e = .returned (.tuple #[]) ∧ u' = .returning ∧ w' = w := by
  refine callsD_of_wpS Try.func86 rfl fun c₀ cs hu => ?_
  apply wpS_seq
  apply wpS_region
  simp [wpOpsS, go_sem, recoverD, hu, Try.ntmps86, Exit.thenS]
  refine wpS_cond (t := false) (by simp [Act.eval, Array.replicate]) ?_
  simp only [Bool.false_eq_true, if_false]
  refine wpS_of_wp (wp_skip ?_)
  cases c₀
  simp_all [bodyPostS, results, Try.results86]

theorem duo {w : World} {i : Nat} {a b : Value} {T : TypeId} (h : w.heap[i]? = some (.cells #[a, b] T (0, 0))) :
    w.cell? ⟨i, 0, none⟩ = some a ∧ w.cell? ⟨i, 1, none⟩ = some b ∧ w.frozen? ⟨i, 0, none⟩ = false ∧ w.frozen? ⟨i, 1, none⟩ = false :=
  ⟨by simp [World.cell?, h], by simp [World.cell?, h], frozen_of_row w i 0 _ _ h, frozen_of_row w i 1 _ _ h⟩

theorem cell_apart2 {X : World} {i : Nat} {p : Addr} {u u' v : Value} (h : X.cell? p = some v) (hne : p.block ≠ i) : ((X.setCell ⟨i, 0, none⟩ u).setCell ⟨i, 1, none⟩ u').cell? p = some v := by
  rw [World.cell?_setCell_other _ _ _ _ (fun e => hne (by rw [← e])), World.cell?_setCell_other _ _ _ _ (fun e => hne (by rw [← e]))]
  exact h

set_option maxHeartbeats 1600000 in
set_option maxRecDepth 100000 in
theorem joinRef_any (f g : Mp) (w : World) :
    Calls Try.prog 15 #[.agg #[.int .u64 f.a, .int .u64 f.b], .agg #[.int .u64 g.a, .int .u64 g.b]] w fun e w' => e = .returned (.agg #[.int .u64 (mJoin f g).a, .int .u64 (mJoin f g).b]) ∧ Below w.heap.size w w' := by
  rw [← mJoin_a, ← mJoin_b]
  generalize f.a = a
  generalize f.b = b
  generalize g.a = c
  generalize g.b = d
  go_enter Try.func15, Try.ntmps15
  go_wp2
  exact bodyPost_ret (v := .agg #[.int .u64 (IntKind.u64.wrap (a * c)), .int .u64 (IntKind.u64.wrap (IntKind.u64.wrap (c * b) + d))]) (by simp [results, Try.results15, go_sem]) rfl ⟨rfl, ((bnew w _).alloc (by simp) _).alloc (by simp; omega) _⟩

theorem cnt_none (n : Nat) (w : World) : Cnt none n w := fun b e => by cases e

theorem joinRef_c (f g : Mp) (n : Nat) (w : World) :
    Calls Try.prog 15 #[.agg #[.int .u64 f.a, .int .u64 f.b], .agg #[.int .u64 g.a, .int .u64 g.b]] w fun e w' => e = .returned (.agg #[.int .u64 (mJoin f g).a, .int .u64 (mJoin f g).b]) ∧ Cnt none (n + 1) w' ∧ Keeps (OnC none) w w' :=
  (joinRef_any f g w).mono fun _ _ h => ⟨h.1, cnt_none _ _, Keeps.of_below h.2 _⟩

/-- What both has laid. -/
structure BStM (W V : World) (tb n : Nat) (jv : Value) (root : Option Addr) (c : Option Nat) (a b : Mp) : Prop where
  keeps : Keeps (OnC c) W V
  cnt : Cnt c n V
  tobj : TObjM V tb jv root
  b0 : V.heap[W.heap.size]? = some (.cells #[.pointer (some ⟨tb, 0, none⟩)] 37 (0, 0))
  b1 : V.heap[W.heap.size + 1]? = some (.cells #[.int .u64 a.a, .int .u64 a.b] 28 (0, 0))
  b2 : V.heap[W.heap.size + 1 + 1]? = some (.cells #[.int .u64 b.a, .int .u64 b.b] 28 (0, 0))
  b3 : V.heap[W.heap.size + 1 + 1 + 1]? = some (.cells #[.int .u64 0, .int .u64 0] 28 (0, 0))

theorem BStM.drew {W V : World} {tb n : Nat} {jv : Value} {root : Option Addr} {c : Option Nat} {a b : Mp} (h : BStM W V tb n jv root c a b) : BStM W V.drew tb n jv root c a b := ⟨h.keeps.drew, h.cnt.drew, h.tobj, h.b0, h.b1, h.b2, h.b3⟩

theorem BStM.on {W V V' : World} {tb n m : Nat} {jv : Value} {root : Option Addr} {c : Option Nat} {a b : Mp} (h : BStM W V tb n jv root c a b) (hc : Cnt c n W) (k : Keeps (OnC c) V V') (hm : Cnt c m V') : BStM W V' tb m jv root c a b :=
  ⟨h.keeps.trans k, hm, h.tobj.onC h.cnt k, blk_keep h.b0 k (hc.lt (by omega)), blk_keep h.b1 k (hc.lt (by omega)), blk_keep h.b2 k (hc.lt (by omega)), blk_keep h.b3 k (hc.lt (by omega))⟩

theorem bstM {W : World} {tb n : Nat} {jv : Value} {root : Option Addr} {c : Option Nat} (a b : Mp) (hc : Cnt c n W) (ht : TObjM W tb jv root) : BStM W ((((W.alloc (.cells #[.pointer (some ⟨tb, 0, none⟩)] 37)).alloc (.cells #[.int .u64 a.a, .int .u64 a.b] 28)).alloc (.cells #[.int .u64 b.a, .int .u64 b.b] 28)).alloc (.cells #[.int .u64 0, .int .u64 0] 28)) tb n jv root c a b := by
  refine ⟨?_, ?_, ?_, ?_, ?_, ?_, ?_⟩
  · exact ((((Keeps.refl _ W).alloc _).alloc _).alloc _).alloc _
  · exact (((hc.alloc _).alloc _).alloc _).alloc _
  · unfold TObjM at ht ⊢; exact blk_on (blk_on (blk_on (blk_on ht (bnew _ _)) (bnew _ _)) (bnew _ _)) (bnew _ _)
  · have h0 := heap_alloc_new W (.cells #[.pointer (some ⟨tb, 0, none⟩)] 37)
    try simp only [World.size_alloc] at h0
    exact blk_on (blk_on (blk_on (h0) (bnew _ _)) (bnew _ _)) (bnew _ _)
  · have h0 := heap_alloc_new (W.alloc (.cells #[.pointer (some ⟨tb, 0, none⟩)] 37)) (.cells #[.int .u64 a.a, .int .u64 a.b] 28)
    try simp only [World.size_alloc] at h0
    exact blk_on (blk_on (h0) (bnew _ _)) (bnew _ _)
  · have h0 := heap_alloc_new ((W.alloc (.cells #[.pointer (some ⟨tb, 0, none⟩)] 37)).alloc (.cells #[.int .u64 a.a, .int .u64 a.b] 28)) (.cells #[.int .u64 b.a, .int .u64 b.b] 28)
    try simp only [World.size_alloc] at h0
    exact blk_on (h0) (bnew _ _)
  · have h0 := heap_alloc_new (((W.alloc (.cells #[.pointer (some ⟨tb, 0, none⟩)] 37)).alloc (.cells #[.int .u64 a.a, .int .u64 a.b] 28)).alloc (.cells #[.int .u64 b.a, .int .u64 b.b] 28)) (.cells #[.int .u64 0, .int .u64 0] 28)
    try simp only [World.size_alloc] at h0
    exact h0

theorem BStM.held {W X : World} {tb n : Nat} {jv : Value} {root : Option Addr} {c : Option Nat} {a b : Mp} (h : BStM W X tb n jv root c a b) : X.cell? ⟨W.heap.size, 0, none⟩ = some (.pointer (some ⟨tb, 0, none⟩)) ∧ X.cell? ⟨W.heap.size + 1, 0, none⟩ = some (.int .u64 a.a) ∧ X.cell? ⟨W.heap.size + 1, 1, none⟩ = some (.int .u64 a.b) ∧ X.cell? ⟨W.heap.size + 1 + 1, 0, none⟩ = some (.int .u64 b.a) ∧ X.cell? ⟨W.heap.size + 1 + 1, 1, none⟩ = some (.int .u64 b.b) ∧ X.cell? ⟨tb, 2, none⟩ = some (jv) := ⟨(cell_one h.b0), (duo h.b1).1, (duo h.b1).2.1, (duo h.b2).1, (duo h.b2).2.1, (tobjM h.tobj).2.2.1⟩

theorem bst_set {W X : World} {tb n : Nat} {jv u u' : Value} {root : Option Addr} {c : Option Nat} {a b : Mp} (h : X.cell? ⟨W.heap.size, 0, none⟩ = some (.pointer (some ⟨tb, 0, none⟩)) ∧ X.cell? ⟨W.heap.size + 1, 0, none⟩ = some (.int .u64 a.a) ∧ X.cell? ⟨W.heap.size + 1, 1, none⟩ = some (.int .u64 a.b) ∧ X.cell? ⟨W.heap.size + 1 + 1, 0, none⟩ = some (.int .u64 b.a) ∧ X.cell? ⟨W.heap.size + 1 + 1, 1, none⟩ = some (.int .u64 b.b) ∧ X.cell? ⟨tb, 2, none⟩ = some (jv)) (B : BStM W X tb n jv root c a b) : ((X.setCell ⟨W.heap.size + 1 + 1 + 1, 0, none⟩ u).setCell ⟨W.heap.size + 1 + 1 + 1, 1, none⟩ u').cell? ⟨W.heap.size, 0, none⟩ = some (.pointer (some ⟨tb, 0, none⟩)) ∧ ((X.setCell ⟨W.heap.size + 1 + 1 + 1, 0, none⟩ u).setCell ⟨W.heap.size + 1 + 1 + 1, 1, none⟩ u').cell? ⟨W.heap.size + 1, 0, none⟩ = some (.int .u64 a.a) ∧ ((X.setCell ⟨W.heap.size + 1 + 1 + 1, 0, none⟩ u).setCell ⟨W.heap.size + 1 + 1 + 1, 1, none⟩ u').cell? ⟨W.heap.size + 1, 1, none⟩ = some (.int .u64 a.b) ∧ ((X.setCell ⟨W.heap.size + 1 + 1 + 1, 0, none⟩ u).setCell ⟨W.heap.size + 1 + 1 + 1, 1, none⟩ u').cell? ⟨W.heap.size + 1 + 1, 0, none⟩ = some (.int .u64 b.a) ∧ ((X.setCell ⟨W.heap.size + 1 + 1 + 1, 0, none⟩ u).setCell ⟨W.heap.size + 1 + 1 + 1, 1, none⟩ u').cell? ⟨W.heap.size + 1 + 1, 1, none⟩ = some (.int .u64 b.b) ∧ ((X.setCell ⟨W.heap.size + 1 + 1 + 1, 0, none⟩ u).setCell ⟨W.heap.size + 1 + 1 + 1, 1, none⟩ u').cell? ⟨tb, 2, none⟩ = some (jv) := by
  obtain ⟨h0, h1, h2, h3, h4, h5⟩ := h
  refine ⟨cell_apart2 h0 (by dsimp only; omega), cell_apart2 h1 (by dsimp only; omega), cell_apart2 h2 (by dsimp only; omega), cell_apart2 h3 (by dsimp only; omega), cell_apart2 h4 (by dsimp only; omega), cell_apart2 h5 ?_⟩
  intro e
  have h6 := B.tobj
  have h7 := B.b3
  unfold TObjM at h6
  dsimp only at e
  rw [e, h7] at h6
  simp at h6

theorem bst_end {W X : World} {tb n m : Nat} {jv u u' : Value} {root : Option Addr} {c : Option Nat} {a b : Mp} (hc : Cnt c m W) (B : BStM W X tb n jv root c a b) :
    Cnt c n ((X.setCell ⟨W.heap.size + 1 + 1 + 1, 0, none⟩ u).setCell ⟨W.heap.size + 1 + 1 + 1, 1, none⟩ u') ∧ Keeps (OnC c) W ((X.setCell ⟨W.heap.size + 1 + 1 + 1, 0, none⟩ u).setCell ⟨W.heap.size + 1 + 1 + 1, 1, none⟩ u') :=
  ⟨(B.cnt.setCell _ (hc.lt (by simp; omega))).setCell _ (hc.lt (by simp; omega)), (B.keeps.setCell (by simp; omega) _).setCell (by simp; omega) _⟩

set_option maxHeartbeats 1600000 in
set_option maxRecDepth 100000 in
theorem joinCosts_c (f g : Mp) (cb n : Nat) (w : World) (h : Cnt (some cb) n w) :
    Calls Try.prog 14 #[.agg #[.int .u64 f.a, .int .u64 f.b], .agg #[.int .u64 g.a, .int .u64 g.b], .pointer (some ⟨cb, 0, none⟩)] w fun e w' => e = .returned (.agg #[.int .u64 (mJoin f g).a, .int .u64 (mJoin f g).b]) ∧ Cnt (some cb) (n + 1) w' ∧ Keeps (OnC (some cb)) w w' := by
  have hb := h cb rfl
  have hlt := lt_of_blk hb
  have hx : IntKind.i64.wrap (IntKind.i64.wrap (n : Int) + 1) = IntKind.i64.wrap ((n + 1 : Nat) : Int) := by simp only [IntKind.wrap_i64]; omega
  unfold Cnt
  generalize IntKind.i64.wrap (n : Int) = x at *
  generalize IntKind.i64.wrap ((n + 1 : Nat) : Int) = y at *
  have CJ := aside (joinRef_any f g)
  generalize (mJoin f g).a = ja at *
  generalize (mJoin f g).b = jb at *
  generalize f.a = aa at *
  generalize f.b = ab at *
  generalize g.a = ba at *
  generalize g.b = bb at *
  have B0 := aside (((bnew w (.cells #[.int .u64 aa, .int .u64 ab] 28)).alloc (by simp) (.cells #[.int .u64 ba, .int .u64 bb] 28)).alloc (by simp; omega) (.cells #[.int .u64 0, .int .u64 0] 28))
  have H0 := aside (blk_on hb B0.out)
  have c0 := cell_one H0.out
  have z0 := frozen_one H0.out
  have H3 := heap_alloc_new ((w.alloc (.cells #[.int .u64 aa, .int .u64 ab] 28)).alloc (.cells #[.int .u64 ba, .int .u64 bb] 28)) (.cells #[.int .u64 0, .int .u64 0] 28)
  simp only [World.size_alloc] at H3
  have H3' := aside H3
  clear h hb H3
  go_enter Try.func14, Try.ntmps14
  go_wp2_with fail
  have G := aside (heap_setCell_same _ cb 0 _ _ (.int .i64 y) H0.out)
  have G3 := aside ((heap_setCell_other _ ⟨cb, 0, none⟩ (w.heap.size + 1 + 1) (.int .i64 y) (by dsimp only; omega)).trans H3'.out)
  have KK := aside (Keeps.setCell (S := OnC (some cb)) (Keeps.of_below B0.out _) (p := ⟨cb, 0, none⟩) (fun _ => rfl) (.int .i64 y))
  generalize World.setCell (((w.alloc (.cells #[.int .u64 aa, .int .u64 ab] 28)).alloc (.cells #[.int .u64 ba, .int .u64 bb] 28)).alloc (.cells #[.int .u64 0, .int .u64 0] 28)) ⟨cb, 0, none⟩ (.int .i64 y) = V at *
  clear H0 c0 z0 B0 H3'
  refine (CJ.out _).mono ?_
  rintro e w1 ⟨rfl, b1⟩
  have G' := aside (blk_on G.out b1)
  have G3' := aside (blk_on G3.out b1)
  have K1 := aside (KK.out.trans (Keeps.of_below b1 _))
  clear b1 G G3 KK
  obtain ⟨s0, s1, z0, z1⟩ := duo G3'.out
  go_wp2
  refine bodyPost_ret (v := .agg #[.int .u64 ja, .int .u64 jb]) (by simp [results, Try.results14, go_sem, s0, s1]) rfl ⟨rfl, ?_, ?_⟩
  · rintro b hb
    injection hb with hb
    subst hb
    rw [heap_setCell_other _ _ _ _ (by dsimp only; omega), heap_setCell_other _ _ _ _ (by dsimp only; omega)]
    exact G'.out
  · exact (K1.out.setCell (by intro h; simp at h; omega) _).setCell (by intro h; simp at h; omega) _

set_option maxHeartbeats 1600000 in
set_option maxRecDepth 100000 in
theorem bothCosts (cb : Nat) : BothOkM (.func (.func 14) #[] #[.pointer (some ⟨cb, 0, none⟩)]) (some cb) := by
  intro W tb n root a b hT hC hS
  have hmf : ∀ (fn : Fn) (first cap : Array Value) (w : World), (Instr.makeFunc fn first cap).run Try.prog w = .ok (.func fn first cap) w := fun _ _ _ _ => rfl
  have CJ := aside (fun (w : World) (h : Cnt (some cb) n w) => joinCosts_c a b cb n w h)
  have B := aside (bstM a b hC hT)
  have HC := aside hC
  clear hT hC hS
  go_enter_defers Try.func72, Try.ntmps72
  go_wp2_with fail
  generalize (((W.alloc (.cells #[.pointer (some ⟨tb, 0, none⟩)] 37)).alloc (.cells #[.int .u64 a.a, .int .u64 a.b] 28)).alloc (.cells #[.int .u64 b.a, .int .u64 b.b] 28)).alloc (.cells #[.int .u64 0, .int .u64 0] 28) = V at *
  refine wp_region_noPanic ?_
  refine wp_region_held_drew (S := fun X => X.cell? ⟨W.heap.size, 0, none⟩ = some (.pointer (some ⟨tb, 0, none⟩)) ∧ X.cell? ⟨W.heap.size + 1, 0, none⟩ = some (.int .u64 a.a) ∧ X.cell? ⟨W.heap.size + 1, 1, none⟩ = some (.int .u64 a.b) ∧ X.cell? ⟨W.heap.size + 1 + 1, 0, none⟩ = some (.int .u64 b.a) ∧ X.cell? ⟨W.heap.size + 1 + 1, 1, none⟩ = some (.int .u64 b.b) ∧ X.cell? ⟨tb, 2, none⟩ = some (.func (.func 14) #[] #[.pointer (some ⟨cb, 0, none⟩)])) (by kernel_rfl) B.out.drew.held (fun hHeld => ?_)
  refine wpAnyH_take (i := 0) (v := ?_) rfl (by kernel_rfl) (by kernel_rfl) (by kernel_rfl) (fun _ _ _ h => h) (Or.inl ⟨by rfl, ?_⟩) (by assumption) ?_
  rotate_left
  · intro w hSw
    go_simp
    try with_reducible rfl
  simp only [Act.put, List.getElem_toArray, List.getElem_cons_zero, List.setIfInBounds_toArray, List.set_cons_zero, List.set_cons_succ]
  refine wpAnyH_take (i := 1) (v := ?_) rfl (by kernel_rfl) (by kernel_rfl) (by kernel_rfl) (fun _ _ _ h => h) (Or.inl ⟨by rfl, ?_⟩) (by assumption) ?_
  rotate_left
  · intro w hSw
    go_simp
    try with_reducible rfl
  simp only [Act.put, List.getElem_toArray, List.getElem_cons_zero, List.getElem_cons_succ, List.setIfInBounds_toArray, List.set_cons_zero, List.set_cons_succ]
  refine wpAnyH_take (i := 2) (v := ?_) rfl (by kernel_rfl) (by kernel_rfl) (by kernel_rfl) (fun _ _ _ h => h) (Or.inl ⟨by rfl, ?_⟩) (by assumption) ?_
  rotate_left
  · intro w hSw
    go_simp
    try with_reducible rfl
  simp only [Act.put, List.getElem_toArray, List.getElem_cons_zero, List.getElem_cons_succ, List.setIfInBounds_toArray, List.set_cons_zero, List.set_cons_succ]
  refine wpAnyH_take (i := 3) (v := ?_) rfl (by kernel_rfl) (by kernel_rfl) (by kernel_rfl) (fun _ _ _ h => h) (Or.inl ⟨by rfl, ?_⟩) (by assumption) ?_
  rotate_left
  · intro w hSw
    go_simp
    try with_reducible rfl
  simp only [Act.put, List.getElem_toArray, List.getElem_cons_zero, List.getElem_cons_succ, List.setIfInBounds_toArray, List.set_cons_zero, List.set_cons_succ]
  refine wpAnyH_take (i := 4) (v := ?_) rfl (by kernel_rfl) (by kernel_rfl) (by kernel_rfl) (fun _ _ _ h => h) (Or.inl ⟨by rfl, ?_⟩) (by assumption) ?_
  rotate_left
  · intro w hSw
    go_simp
    try with_reducible rfl
  simp only [Act.put, List.getElem_toArray, List.getElem_cons_zero, List.getElem_cons_succ, List.setIfInBounds_toArray, List.set_cons_zero, List.set_cons_succ]
  refine wpAnyH_take (i := 5) (v := ?_) rfl (by kernel_rfl) (by kernel_rfl) (by kernel_rfl) (fun _ _ _ h => h) (Or.inl ⟨by rfl, ?_⟩) (by assumption) ?_
  rotate_left
  · intro w hSw
    go_simp
    try with_reducible rfl
  simp only [Act.put, List.getElem_toArray, List.getElem_cons_zero, List.getElem_cons_succ, List.setIfInBounds_toArray, List.set_cons_zero, List.set_cons_succ]
  refine wpAnyH_ready (rs := [6]) (by kernel_rfl) (by simp) ?_
  refine AllReadyH.cons rfl (fun K hK => ?_) AllReadyH.nil
  go_simp
  refine (CJ.out _ B.out.drew.cnt).mono ?_
  rintro e w9 ⟨rfl, bc, kk⟩
  refine hK.out _ _ ((B.out.drew.on HC.out kk bc).held) (fun hHeld => ?_)
  clear hK K 
  have B1 := aside (B.out.drew.on HC.out kk bc)
  obtain ⟨s0, s1, z0, z1⟩ := duo B1.out.b3
  clear bc kk B
  refine wpAnyH_ready (rs := [7]) (by kernel_rfl) (by simp) ?_
  refine AllReadyH.cons rfl (fun K hK => ?_) AllReadyH.nil
  go_simp
  refine hK.out _ _ (bst_set hHeld B1.out) (fun hHeld => ?_)
  clear hK K 
  refine wpAnyH_done (by kernel_rfl) (NoPanic.normal ?_) _
  go_wp2
  have E := aside (bst_end (u := .int .u64 (mJoin a b).a) (u' := .int .u64 (mJoin a b).b) HC.out B1.out)
  have r0 := (World.cell?_setCell_other (w9.setCell ⟨W.heap.size + 1 + 1 + 1, 0, none⟩ (.int .u64 (mJoin a b).a)) ⟨W.heap.size + 1 + 1 + 1, 1, none⟩ ⟨W.heap.size + 1 + 1 + 1, 0, none⟩ (.int .u64 (mJoin a b).b) (by simp)).trans (World.cell?_setCell_same' w9 ⟨W.heap.size + 1 + 1 + 1, 0, none⟩ (.int .u64 (mJoin a b).a) (by rw [s0]; rfl))
  have r1 := World.cell?_setCell_same' (w9.setCell ⟨W.heap.size + 1 + 1 + 1, 0, none⟩ (.int .u64 (mJoin a b).a)) ⟨W.heap.size + 1 + 1 + 1, 1, none⟩ (.int .u64 (mJoin a b).b) (by rw [World.cell?_setCell_other _ _ _ _ (by simp), s1]; rfl)
  clear hHeld s0 s1 z0 z1 B1 CJ
  generalize (w9.setCell ⟨W.heap.size + 1 + 1 + 1, 0, none⟩ (.int .u64 (mJoin a b).a)).setCell ⟨W.heap.size + 1 + 1 + 1, 1, none⟩ (.int .u64 (mJoin a b).b) = W2 at *
  refine leaves_cons (f := 86) (args := #[.pointer (some ⟨W.heap.size, 0, none⟩), .pointer (some ⟨W.heap.size + 1 + 1 + 1, 0, none⟩)]) (by simp) (by simp [go_sem]) ?_
  refine (catch_idleM _ _ _).mono ?_
  rintro e u' w'' ⟨rfl, rfl, rfl⟩
  simp [Leaves, settle, results, Try.results72, go_sem, r0, r1]
  exact E.out

set_option maxHeartbeats 1600000 in
set_option maxRecDepth 100000 in
theorem bothRef : BothOkM (.func (.func 15) #[] #[]) none := by
  intro W tb n root a b hT hC hS
  have hmf : ∀ (fn : Fn) (first cap : Array Value) (w : World), (Instr.makeFunc fn first cap).run Try.prog w = .ok (.func fn first cap) w := fun _ _ _ _ => rfl
  have CJ := aside (fun (w : World) (h : Cnt none n w) => joinRef_c a b n w)
  have B := aside (bstM a b hC hT)
  have HC := aside hC
  clear hT hC hS
  go_enter_defers Try.func72, Try.ntmps72
  go_wp2_with fail
  generalize (((W.alloc (.cells #[.pointer (some ⟨tb, 0, none⟩)] 37)).alloc (.cells #[.int .u64 a.a, .int .u64 a.b] 28)).alloc (.cells #[.int .u64 b.a, .int .u64 b.b] 28)).alloc (.cells #[.int .u64 0, .int .u64 0] 28) = V at *
  refine wp_region_noPanic ?_
  refine wp_region_held_drew (S := fun X => X.cell? ⟨W.heap.size, 0, none⟩ = some (.pointer (some ⟨tb, 0, none⟩)) ∧ X.cell? ⟨W.heap.size + 1, 0, none⟩ = some (.int .u64 a.a) ∧ X.cell? ⟨W.heap.size + 1, 1, none⟩ = some (.int .u64 a.b) ∧ X.cell? ⟨W.heap.size + 1 + 1, 0, none⟩ = some (.int .u64 b.a) ∧ X.cell? ⟨W.heap.size + 1 + 1, 1, none⟩ = some (.int .u64 b.b) ∧ X.cell? ⟨tb, 2, none⟩ = some (.func (.func 15) #[] #[])) (by kernel_rfl) B.out.drew.held (fun hHeld => ?_)
  refine wpAnyH_take (i := 0) (v := ?_) rfl (by kernel_rfl) (by kernel_rfl) (by kernel_rfl) (fun _ _ _ h => h) (Or.inl ⟨by rfl, ?_⟩) (by assumption) ?_
  rotate_left
  · intro w hSw
    go_simp
    try with_reducible rfl
  simp only [Act.put, List.getElem_toArray, List.getElem_cons_zero, List.setIfInBounds_toArray, List.set_cons_zero, List.set_cons_succ]
  refine wpAnyH_take (i := 1) (v := ?_) rfl (by kernel_rfl) (by kernel_rfl) (by kernel_rfl) (fun _ _ _ h => h) (Or.inl ⟨by rfl, ?_⟩) (by assumption) ?_
  rotate_left
  · intro w hSw
    go_simp
    try with_reducible rfl
  simp only [Act.put, List.getElem_toArray, List.getElem_cons_zero, List.getElem_cons_succ, List.setIfInBounds_toArray, List.set_cons_zero, List.set_cons_succ]
  refine wpAnyH_take (i := 2) (v := ?_) rfl (by kernel_rfl) (by kernel_rfl) (by kernel_rfl) (fun _ _ _ h => h) (Or.inl ⟨by rfl, ?_⟩) (by assumption) ?_
  rotate_left
  · intro w hSw
    go_simp
    try with_reducible rfl
  simp only [Act.put, List.getElem_toArray, List.getElem_cons_zero, List.getElem_cons_succ, List.setIfInBounds_toArray, List.set_cons_zero, List.set_cons_succ]
  refine wpAnyH_take (i := 3) (v := ?_) rfl (by kernel_rfl) (by kernel_rfl) (by kernel_rfl) (fun _ _ _ h => h) (Or.inl ⟨by rfl, ?_⟩) (by assumption) ?_
  rotate_left
  · intro w hSw
    go_simp
    try with_reducible rfl
  simp only [Act.put, List.getElem_toArray, List.getElem_cons_zero, List.getElem_cons_succ, List.setIfInBounds_toArray, List.set_cons_zero, List.set_cons_succ]
  refine wpAnyH_take (i := 4) (v := ?_) rfl (by kernel_rfl) (by kernel_rfl) (by kernel_rfl) (fun _ _ _ h => h) (Or.inl ⟨by rfl, ?_⟩) (by assumption) ?_
  rotate_left
  · intro w hSw
    go_simp
    try with_reducible rfl
  simp only [Act.put, List.getElem_toArray, List.getElem_cons_zero, List.getElem_cons_succ, List.setIfInBounds_toArray, List.set_cons_zero, List.set_cons_succ]
  refine wpAnyH_take (i := 5) (v := ?_) rfl (by kernel_rfl) (by kernel_rfl) (by kernel_rfl) (fun _ _ _ h => h) (Or.inl ⟨by rfl, ?_⟩) (by assumption) ?_
  rotate_left
  · intro w hSw
    go_simp
    try with_reducible rfl
  simp only [Act.put, List.getElem_toArray, List.getElem_cons_zero, List.getElem_cons_succ, List.setIfInBounds_toArray, List.set_cons_zero, List.set_cons_succ]
  refine wpAnyH_ready (rs := [6]) (by kernel_rfl) (by simp) ?_
  refine AllReadyH.cons rfl (fun K hK => ?_) AllReadyH.nil
  go_simp
  refine (CJ.out _ B.out.drew.cnt).mono ?_
  rintro e w9 ⟨rfl, bc, kk⟩
  refine hK.out _ _ ((B.out.drew.on HC.out kk bc).held) (fun hHeld => ?_)
  clear hK K 
  have B1 := aside (B.out.drew.on HC.out kk bc)
  obtain ⟨s0, s1, z0, z1⟩ := duo B1.out.b3
  clear bc kk B
  refine wpAnyH_ready (rs := [7]) (by kernel_rfl) (by simp) ?_
  refine AllReadyH.cons rfl (fun K hK => ?_) AllReadyH.nil
  go_simp
  refine hK.out _ _ (bst_set hHeld B1.out) (fun hHeld => ?_)
  clear hK K 
  refine wpAnyH_done (by kernel_rfl) (NoPanic.normal ?_) _
  go_wp2
  have E := aside (bst_end (u := .int .u64 (mJoin a b).a) (u' := .int .u64 (mJoin a b).b) HC.out B1.out)
  have r0 := (World.cell?_setCell_other (w9.setCell ⟨W.heap.size + 1 + 1 + 1, 0, none⟩ (.int .u64 (mJoin a b).a)) ⟨W.heap.size + 1 + 1 + 1, 1, none⟩ ⟨W.heap.size + 1 + 1 + 1, 0, none⟩ (.int .u64 (mJoin a b).b) (by simp)).trans (World.cell?_setCell_same' w9 ⟨W.heap.size + 1 + 1 + 1, 0, none⟩ (.int .u64 (mJoin a b).a) (by rw [s0]; rfl))
  have r1 := World.cell?_setCell_same' (w9.setCell ⟨W.heap.size + 1 + 1 + 1, 0, none⟩ (.int .u64 (mJoin a b).a)) ⟨W.heap.size + 1 + 1 + 1, 1, none⟩ (.int .u64 (mJoin a b).b) (by rw [World.cell?_setCell_other _ _ _ _ (by simp), s1]; rfl)
  clear hHeld s0 s1 z0 z1 B1 CJ
  generalize (w9.setCell ⟨W.heap.size + 1 + 1 + 1, 0, none⟩ (.int .u64 (mJoin a b).a)).setCell ⟨W.heap.size + 1 + 1 + 1, 1, none⟩ (.int .u64 (mJoin a b).b) = W2 at *
  refine leaves_cons (f := 86) (args := #[.pointer (some ⟨W.heap.size, 0, none⟩), .pointer (some ⟨W.heap.size + 1 + 1 + 1, 0, none⟩)]) (by simp) (by simp [go_sem]) ?_
  refine (catch_idleM _ _ _).mono ?_
  rintro e u' w'' ⟨rfl, rfl, rfl⟩
  simp [Leaves, settle, results, Try.results72, go_sem, r0, r1]
  exact E.out

end Go.Proofs.Ytnlmlhoddchgbaa
namespace Go.Proofs.Ytnlmlhoddchgbaa
open Go.RowKit
set_option linter.unusedVariables false

/-- What hang has laid; x is the sum so far. -/
structure HStM (w V : World) (tb n : Nat) (jv : Value) (root : Option Addr) (c : Option Nat) (k : ByteArray) (v : Int) (s x : Mp) (l r : Tr Int Mp) (lp rp : Option Addr) : Prop where
  keeps : Keeps (OnC c) w V
  cnt : Cnt c n V
  tobj : TObjM V tb jv root
  row : V.heap[w.heap.size]? = some (.cells #[.string k, .int .i64 v, .int .u64 s.a, .int .u64 s.b] 92 (0, 0))
  sm : V.heap[w.heap.size + 1]? = some (.cells #[.int .u64 x.a, .int .u64 x.b] 28 (0, 0))
  l : IsTM V lp l
  r : IsTM V rp r

theorem HStM.drew {w V : World} {tb n : Nat} {jv : Value} {root : Option Addr} {c : Option Nat} {k : ByteArray} {v : Int} {s x : Mp} {l r : Tr Int Mp} {lp rp : Option Addr} (h : HStM w V tb n jv root c k v s x l r lp rp) : HStM w V.drew tb n jv root c k v s x l r lp rp := ⟨h.keeps.drew, h.cnt.drew, h.tobj, h.row, h.sm, h.l.on (Stay.refl _ _).drew, h.r.on (Stay.refl _ _).drew⟩

theorem HStM.on {w V : World} {tb n : Nat} {jv : Value} {root : Option Addr} {c : Option Nat} {k : ByteArray} {v : Int} {s x : Mp} {l r : Tr Int Mp} {lp rp : Option Addr} {V' : World} {m n0 : Nat} (h : HStM w V tb n jv root c k v s x l r lp rp) (h0 : Cnt c n0 w) (kk : Keeps (OnC c) V V') (hm : Cnt c m V') : HStM w V' tb m jv root c k v s x l r lp rp :=
  ⟨h.keeps.trans kk, hm, h.tobj.onC h.cnt kk, blk_keep h.row kk (h0.lt (by omega)), blk_keep h.sm kk (h0.lt (by omega)), h.l.on ((Stay.refl _ _).onC h.cnt kk (by decide)), h.r.on ((Stay.refl _ _).onC h.cnt kk (by decide))⟩

theorem HStM.set {w V : World} {tb n : Nat} {jv : Value} {root : Option Addr} {c : Option Nat} {k : ByteArray} {v : Int} {s x : Mp} {l r : Tr Int Mp} {lp rp : Option Addr} {n0 : Nat} (h : HStM w V tb n jv root c k v s x l r lp rp) (h0 : Cnt c n0 w) (y : Mp) : HStM w ((V.setCell ⟨w.heap.size + 1, 0, none⟩ (.int .u64 y.a)).setCell ⟨w.heap.size + 1, 1, none⟩ (.int .u64 y.b)) tb n jv root c k v s y l r lp rp := by
  have h1 := heap_setCell_same V (w.heap.size + 1) 0 _ _ (.int .u64 y.a) h.sm
  have h2 := heap_setCell_same _ (w.heap.size + 1) 1 _ _ (.int .u64 y.b) h1
  have st : Stay 94 V ((V.setCell ⟨w.heap.size + 1, 0, none⟩ (.int .u64 y.a)).setCell ⟨w.heap.size + 1, 1, none⟩ (.int .u64 y.b)) := ((Stay.refl _ V).setCell _ (fun cs e => by dsimp only at e; rw [h.sm] at e; simp at e)).setCell _ (fun cs e => by dsimp only at e; rw [h1] at e; simp at e)
  refine ⟨(h.keeps.setCell (fun e => by dsimp only at e; omega) _).setCell (fun e => by dsimp only at e; omega) _, (h.cnt.setCell _ (h0.lt (by simp))).setCell _ (h0.lt (by simp)), ?_, ?_, h2, h.l.on st, h.r.on st⟩
  · have ht := h.tobj
    unfold TObjM at ht ⊢
    have hne : tb ≠ w.heap.size + 1 := fun e => by rw [e, h.sm] at ht; simp at ht
    rw [heap_setCell_other _ _ _ _ hne, heap_setCell_other _ _ _ _ hne]
    exact ht
  · rw [heap_setCell_other _ _ _ _ (by dsimp only; omega), heap_setCell_other _ _ _ _ (by dsimp only; omega)]
    exact h.row

theorem hstM {w : World} {tb n : Nat} {jv : Value} {root : Option Addr} {c : Option Nat} {l r : Tr Int Mp} {lp rp : Option Addr} (k : ByteArray) (v : Int) (s : Mp) (ht : TObjM w tb jv root) (hc : Cnt c n w) (hl : IsTM w lp l) (hr : IsTM w rp r) :
    HStM w ((w.alloc (.cells #[.string k, .int .i64 v, .int .u64 s.a, .int .u64 s.b] 92)).alloc (.cells #[.int .u64 s.a, .int .u64 s.b] 28)) tb n jv root c k v s s l r lp rp := by
  have st : Stay 94 w ((w.alloc (.cells #[.string k, .int .i64 v, .int .u64 s.a, .int .u64 s.b] 92)).alloc (.cells #[.int .u64 s.a, .int .u64 s.b] 28)) := ((Stay.refl _ w).alloc _).alloc _
  have h1 := heap_alloc_new (w.alloc (.cells #[.string k, .int .i64 v, .int .u64 s.a, .int .u64 s.b] 92)) (.cells #[.int .u64 s.a, .int .u64 s.b] 28)
  simp only [World.size_alloc] at h1
  refine ⟨((Keeps.refl _ w).alloc _).alloc _, (hc.alloc _).alloc _, ?_, blk_on (heap_alloc_new w _) (bnew _ _), h1, hl.on st, hr.on st⟩
  unfold TObjM at ht ⊢
  exact blk_on (blk_on ht (bnew _ _)) (bnew _ _)

theorem HStM.alloc {w V : World} {tb n : Nat} {jv : Value} {root : Option Addr} {c : Option Nat} {k : ByteArray} {v : Int} {s x : Mp} {l r : Tr Int Mp} {lp rp : Option Addr} (h : HStM w V tb n jv root c k v s x l r lp rp) (o : Obj) : HStM w (V.alloc o) tb n jv root c k v s x l r lp rp := by
  refine ⟨h.keeps.alloc _, h.cnt.alloc _, ?_, blk_on h.row (bnew _ _), blk_on h.sm (bnew _ _), h.l.on ((Stay.refl _ _).alloc _), h.r.on ((Stay.refl _ _).alloc _)⟩
  have ht := h.tobj
  unfold TObjM at ht ⊢
  exact blk_on ht (bnew _ _)

theorem hangDoneM {w V : World} {tb n : Nat} {jv : Value} {root : Option Addr} {c : Option Nat} {k : ByteArray} {v : Int} {s x : Mp} {l r : Tr Int Mp} {lp rp : Option Addr} {n0 : Nat} {mh : Int} (hm : (if l.ht < r.ht then (r.ht : Int) else (l.ht : Int)) = mh) (h : HStM w V tb n jv root c k v s x l r lp rp) (hx : x = (Tr.node l k v s r).sum mJoin mZero) (hn : n = n0 + Tr.hangC l r) (hw : (Tr.node l k v s r).wt mSz ≤ 4611686018427387904) :
    (fun V' : World => ∃ p, Ending.returned (.pointer (some ⟨V.heap.size, 0, none⟩)) = .returned (.pointer p) ∧ IsTM V' p (Tr.node l k v s r) ∧ Cnt c (n0 + Tr.hangC l r) V' ∧ Keeps (OnC c) w V') (World.drew (V.alloc (.cells #[.string k, .int .i64 v, .int .u64 s.a, .int .u64 s.b, .pointer lp, .pointer rp, .int .i64 (IntKind.i64.wrap (IntKind.i64.wrap ((l.cnt : Int) + 1) + (r.cnt : Int))), .int .i64 (IntKind.i64.wrap (mh + 1)), .int .u64 x.a, .int .u64 x.b] 94))) := by
  subst hm
  have h1 := Tr.cnt_le_wt mSz (Tr.node l k v s r)
  have h2 := Tr.ht_le_cnt (Tr.node l k v s r)
  have e1 : IntKind.i64.wrap (IntKind.i64.wrap ((l.cnt : Int) + 1) + (r.cnt : Int)) = ((Tr.node l k v s r).cnt : Int) := by
    simp only [Tr.cnt] at h1 ⊢
    simp only [IntKind.wrap_i64]
    omega
  have e2 : IntKind.i64.wrap ((if l.ht < r.ht then (r.ht : Int) else (l.ht : Int)) + 1) = ((Tr.node l k v s r).ht : Int) := by
    simp only [Tr.ht, Tr.cnt] at h1 h2 ⊢
    split <;> simp only [IntKind.wrap_i64] <;> omega
  rw [e1, e2]
  subst hx hn
  exact ⟨_, rfl, ⟨_, _, _, rfl, heap_alloc_new V _, h.l.on ((Stay.refl _ _).alloc _).drew, h.r.on ((Stay.refl _ _).alloc _).drew⟩, (h.cnt.alloc _).drew, (h.keeps.alloc _).drew⟩

theorem HStM.held {w X : World} {tb n : Nat} {jv : Value} {root : Option Addr} {c : Option Nat} {k : ByteArray} {v : Int} {s x : Mp} {l r : Tr Int Mp} {lp rp : Option Addr} (h : HStM w X tb n jv root c k v s x l r lp rp) : X.cell? ⟨w.heap.size, 0, none⟩ = some (.string k) ∧ X.cell? ⟨w.heap.size, 1, none⟩ = some (.int .i64 v) ∧ X.cell? ⟨w.heap.size, 2, none⟩ = some (.int .u64 s.a) ∧ X.cell? ⟨w.heap.size, 3, none⟩ = some (.int .u64 s.b) ∧ X.cell? ⟨w.heap.size + 1, 0, none⟩ = some (.int .u64 x.a) ∧ X.cell? ⟨w.heap.size + 1, 1, none⟩ = some (.int .u64 x.b) ∧ Hid (HStM w X tb n jv root c k v s x l r lp rp) := by
  have h1 := h.row
  have h2 := h.sm
  simp only [World.cell?, h1, h2]
  exact ⟨rfl, rfl, rfl, rfl, rfl, rfl, h⟩

end Go.Proofs.Ytnlmlhoddchgbaa
namespace Go.Proofs.Ytnlmlhoddchgbaa
open Go.RowKit
set_option linter.unusedVariables false

set_option maxHeartbeats 3200000 in
set_option maxRecDepth 100000 in
theorem hangM00 {jv : Value} {c : Option Nat} (HB : BothOkM jv c) {w : World} {tb n : Nat} {root : Option Addr} {l r : Tr Int Mp} (k : ByteArray) (v : Int) (s : Mp)
    (ht : TObjM w tb jv root) (hc : Cnt c n w) (hl : IsTM w none l) (hr : IsTM w none r) (hw : (Tr.node l k v s r).wt mSz ≤ 4611686018427387904) (hnl : l.isNil = true) (hnr : r.isNil = true) :
    Calls Try.prog 50 #[.pointer (some ⟨tb, 0, none⟩), .agg #[.string k, .int .i64 v, .int .u64 s.a, .int .u64 s.b], .pointer none, .pointer none] w fun e w' => ∃ p, e = .returned (.pointer p) ∧ IsTM w' p (Tr.node l k v s r) ∧ Cnt c (n + Tr.hangC l r) w' ∧ Keeps (OnC c) w w' := by
  have H0 := aside (hstM k v s ht hc hl hr)
  have HC := aside hc
  have HW := aside hw
  simp only [Tr.wt] at hw
  clear ht hc hl hr hw
  go_enter Try.func50, Try.ntmps50
  go_wp2_with fail
  generalize (w.alloc (.cells #[.string k, .int .i64 v, .int .u64 s.a, .int .u64 s.b] 92)).alloc (.cells #[.int .u64 s.a, .int .u64 s.b] 28) = V at *
  refine wp_region_held_drew (S := fun X => X.cell? ⟨w.heap.size, 0, none⟩ = some (.string k) ∧ X.cell? ⟨w.heap.size, 1, none⟩ = some (.int .i64 v) ∧ X.cell? ⟨w.heap.size, 2, none⟩ = some (.int .u64 s.a) ∧ X.cell? ⟨w.heap.size, 3, none⟩ = some (.int .u64 s.b) ∧ X.cell? ⟨w.heap.size + 1, 0, none⟩ = some (.int .u64 s.a) ∧ X.cell? ⟨w.heap.size + 1, 1, none⟩ = some (.int .u64 s.b) ∧ Hid (HStM w X tb n jv root c k v s s l r none none)) (by kernel_rfl) H0.out.drew.held (fun hHeld => ?_)
  refine wpAnyH_take (i := 0) (v := ?_) rfl (by kernel_rfl) (by kernel_rfl) (by kernel_rfl) (fun _ _ _ h => h) (Or.inl ⟨by rfl, ?_⟩) (by assumption) ?_
  rotate_left
  · intro w hSw
    go_simp
    try with_reducible rfl
  simp only [Act.put, List.getElem_toArray, List.getElem_cons_zero, List.setIfInBounds_toArray, List.set_cons_zero, List.set_cons_succ]
  refine wpAnyH_take (i := 1) (v := ?_) rfl (by kernel_rfl) (by kernel_rfl) (by kernel_rfl) (fun _ _ _ h => h) (Or.inl ⟨by rfl, ?_⟩) (by assumption) ?_
  rotate_left
  · intro w hSw
    go_simp
    try with_reducible rfl
  simp only [Act.put, List.getElem_toArray, List.getElem_cons_zero, List.getElem_cons_succ, List.setIfInBounds_toArray, List.set_cons_zero, List.set_cons_succ]
  refine wpAnyH_take (i := 2) (v := ?_) rfl (by kernel_rfl) (by kernel_rfl) (by kernel_rfl) (fun _ _ _ h => h) (Or.inl ⟨by rfl, ?_⟩) (by assumption) ?_
  rotate_left
  · intro w hSw
    go_simp
    try with_reducible rfl
  simp only [Act.put, List.getElem_toArray, List.getElem_cons_zero, List.getElem_cons_succ, List.setIfInBounds_toArray, List.set_cons_zero, List.set_cons_succ]
  refine wpAnyH_take (i := 3) (v := ?_) rfl (by kernel_rfl) (by kernel_rfl) (by kernel_rfl) (fun _ _ _ h => h) (Or.inl ⟨by rfl, ?_⟩) (by assumption) ?_
  rotate_left
  · intro w hSw
    go_simp
    try with_reducible rfl
  simp only [Act.put, List.getElem_toArray, List.getElem_cons_zero, List.getElem_cons_succ, List.setIfInBounds_toArray, List.set_cons_zero, List.set_cons_succ]
  refine wpAnyH_take (i := 6) (v := ?_) rfl (by kernel_rfl) (by kernel_rfl) (by kernel_rfl) (fun _ _ _ h => h) (Or.inl ⟨by rfl, ?_⟩) (by assumption) ?_
  rotate_left
  · intro w hSw
    go_simp
    try with_reducible rfl
  simp only [Act.put, List.getElem_toArray, List.getElem_cons_zero, List.getElem_cons_succ, List.setIfInBounds_toArray, List.set_cons_zero, List.set_cons_succ]
  refine wpAnyH_take (i := 9) (v := ?_) rfl (by kernel_rfl) (by kernel_rfl) (by kernel_rfl) (fun _ _ _ h => h) (Or.inl ⟨by rfl, ?_⟩) (by assumption) ?_
  rotate_left
  · intro w hSw
    go_simp
    try with_reducible rfl
  simp only [Act.put, List.getElem_toArray, List.getElem_cons_zero, List.getElem_cons_succ, List.setIfInBounds_toArray, List.set_cons_zero, List.set_cons_succ]
  refine wpAnyH_take (i := 11) (v := ?_) rfl (by kernel_rfl) (by kernel_rfl) (by kernel_rfl) (fun _ _ _ h => h) (Or.inl ⟨by rfl, ?_⟩) (by assumption) ?_
  rotate_left
  · intro w hSw
    go_simp
    try with_reducible rfl
  simp only [Act.put, List.getElem_toArray, List.getElem_cons_zero, List.getElem_cons_succ, List.setIfInBounds_toArray, List.set_cons_zero, List.set_cons_succ]
  refine wpAnyH_take (i := 15) (v := ?_) rfl (by kernel_rfl) (by kernel_rfl) (by kernel_rfl) (fun _ _ _ h => h) (Or.inl ⟨by rfl, ?_⟩) (by assumption) ?_
  rotate_left
  · intro w hSw
    go_simp
    try with_reducible rfl
  simp only [Act.put, List.getElem_toArray, List.getElem_cons_zero, List.getElem_cons_succ, List.setIfInBounds_toArray, List.set_cons_zero, List.set_cons_succ]
  refine wpAnyH_ready (rs := [4]) (by kernel_rfl) (by simp) ?_
  refine AllReadyH.cons rfl (fun K hK => ?_) AllReadyH.nil
  go_simp
  refine (rowsM hHeld.2.2.2.2.2.2.out.l).mono ?_
  rintro e w9 ⟨rfl, rfl⟩
  refine hK.out _ _ (hHeld) (fun hHeld => ?_)
  clear hK K 
  refine wpAnyH_take (i := 5) (v := ?_) rfl (by kernel_rfl) (by kernel_rfl) (by kernel_rfl) (fun _ _ _ h => h) (Or.inl ⟨by rfl, ?_⟩) (by assumption) ?_
  rotate_left
  · intro w hSw
    go_simp
    try with_reducible rfl
  simp only [Act.put, List.getElem_toArray, List.getElem_cons_zero, List.getElem_cons_succ, List.setIfInBounds_toArray, List.set_cons_zero, List.set_cons_succ]
  refine wpAnyH_ready (rs := [7]) (by kernel_rfl) (by simp) ?_
  refine AllReadyH.cons rfl (fun K hK => ?_) AllReadyH.nil
  go_simp
  refine (rowsM hHeld.2.2.2.2.2.2.out.r).mono ?_
  rintro e w9 ⟨rfl, rfl⟩
  refine hK.out _ _ (hHeld) (fun hHeld => ?_)
  clear hK K 
  refine wpAnyH_take (i := 8) (v := ?_) rfl (by kernel_rfl) (by kernel_rfl) (by kernel_rfl) (fun _ _ _ h => h) (Or.inl ⟨by rfl, ?_⟩) (by assumption) ?_
  rotate_left
  · intro w hSw
    go_simp
    try with_reducible rfl
  simp only [Act.put, List.getElem_toArray, List.getElem_cons_zero, List.getElem_cons_succ, List.setIfInBounds_toArray, List.set_cons_zero, List.set_cons_succ]
  refine wpAnyH_ready (rs := [10]) (by kernel_rfl) (by simp) ?_
  refine AllReadyH.cons rfl (fun K hK => ?_) AllReadyH.nil
  go_simp
  refine (levelsM hHeld.2.2.2.2.2.2.out.l).mono ?_
  rintro e w9 ⟨rfl, rfl⟩
  refine hK.out _ _ (hHeld) (fun hHeld => ?_)
  clear hK K 
  refine wpAnyH_ready (rs := [12]) (by kernel_rfl) (by simp) ?_
  refine AllReadyH.cons rfl (fun K hK => ?_) AllReadyH.nil
  go_simp
  refine (levelsM hHeld.2.2.2.2.2.2.out.r).mono ?_
  rintro e w9 ⟨rfl, rfl⟩
  refine hK.out _ _ (hHeld) (fun hHeld => ?_)
  clear hK K 
  refine wpAnyH_take (i := 13) (v := ?_) rfl (by kernel_rfl) (by kernel_rfl) (by kernel_rfl) (fun _ _ _ h => h) (Or.inl ⟨by rfl, ?_⟩) (by assumption) ?_
  rotate_left
  · intro w hSw
    go_simp
    try with_reducible rfl
  simp only [Act.put, List.getElem_toArray, List.getElem_cons_zero, List.getElem_cons_succ, List.setIfInBounds_toArray, List.set_cons_zero, List.set_cons_succ]
  generalize hm : (if l.ht < r.ht then (r.ht : Int) else (l.ht : Int)) = mh
  have HM := aside hm
  clear hm
  refine wpAnyH_take (i := 14) (v := ?_) rfl (by kernel_rfl) (by kernel_rfl) (by kernel_rfl) (fun _ _ _ h => h) (Or.inl ⟨by rfl, ?_⟩) (by assumption) ?_
  rotate_left
  · intro w hSw
    go_simp
    try with_reducible rfl
  simp only [Act.put, List.getElem_toArray, List.getElem_cons_zero, List.getElem_cons_succ, List.setIfInBounds_toArray, List.set_cons_zero, List.set_cons_succ]
  refine wpAnyH_take (i := 16) (v := ?_) rfl (by kernel_rfl) (by kernel_rfl) (by kernel_rfl) (fun _ _ _ h => h) (Or.inl ⟨by rfl, ?_⟩) (by assumption) ?_
  rotate_left
  · intro w hSw
    go_simp
    try with_reducible rfl
  simp only [Act.put, List.getElem_toArray, List.getElem_cons_zero, List.getElem_cons_succ, List.setIfInBounds_toArray, List.set_cons_zero, List.set_cons_succ]
  refine wpAnyH_ready (rs := [17]) (by kernel_rfl) (by simp) ?_
  refine AllReadyH.cons rfl (fun K hK => ?_) AllReadyH.nil
  go_simp
  refine hK.out _ _ ((hHeld.2.2.2.2.2.2.out.alloc _).held) (fun hHeld => ?_)
  clear hK K 
  refine wpAnyH_take (i := 18) (v := ?_) rfl (by kernel_rfl) (by kernel_rfl) (by kernel_rfl) (fun _ _ _ h => h) (Or.inl ⟨by rfl, ?_⟩) (by assumption) ?_
  rotate_left
  · intro w hSw
    go_simp
    try with_reducible rfl
  simp only [Act.put, List.getElem_toArray, List.getElem_cons_zero, List.getElem_cons_succ, List.setIfInBounds_toArray, List.set_cons_zero, List.set_cons_succ]
  refine wpAnyH_done (by kernel_rfl) ?_ _
  go_wp2
  refine bodyPost_ret (v := .pointer (some ⟨V.heap.size, 0, none⟩)) (by simp [results, Try.results50, go_sem]) rfl ?_
  exact hangDoneM (n0 := n) HM.out H0.out (by simp [Tr.sum, hnl, hnr]) (by simp [Tr.hangC, hnl, hnr]) HW.out

end Go.Proofs.Ytnlmlhoddchgbaa
namespace Go.Proofs.Ytnlmlhoddchgbaa
open Go.RowKit
set_option linter.unusedVariables false

set_option maxHeartbeats 3200000 in
set_option maxRecDepth 100000 in
theorem hangM01 {jv : Value} {c : Option Nat} (HB : BothOkM jv c) {w : World} {tb n : Nat} {root : Option Addr} {l r : Tr Int Mp} {br : Nat} (k : ByteArray) (v : Int) (s : Mp)
    (ht : TObjM w tb jv root) (hc : Cnt c n w) (hl : IsTM w none l) (hr : IsTM w (some ⟨br, 0, none⟩) r) (hw : (Tr.node l k v s r).wt mSz ≤ 4611686018427387904) (hnl : l.isNil = true) (hnr : r.isNil = false) :
    Calls Try.prog 50 #[.pointer (some ⟨tb, 0, none⟩), .agg #[.string k, .int .i64 v, .int .u64 s.a, .int .u64 s.b], .pointer none, .pointer (some ⟨br, 0, none⟩)] w fun e w' => ∃ p, e = .returned (.pointer p) ∧ IsTM w' p (Tr.node l k v s r) ∧ Cnt c (n + Tr.hangC l r) w' ∧ Keeps (OnC c) w w' := by
  have H0 := aside (hstM k v s ht hc hl hr)
  have HC := aside hc
  have HW := aside hw
  simp only [Tr.wt] at hw
  have hsr := Tr.sum_le mSz_le mZero r hnr
  have hler : mSz s + mSz (r.sum mJoin mZero) ≤ 4611686018427387904 := by omega
  clear ht hc hl hr hw hsr
  go_enter Try.func50, Try.ntmps50
  go_wp2_with fail
  generalize (w.alloc (.cells #[.string k, .int .i64 v, .int .u64 s.a, .int .u64 s.b] 92)).alloc (.cells #[.int .u64 s.a, .int .u64 s.b] 28) = V at *
  refine wp_region_held_drew (S := fun X => X.cell? ⟨br, 8, none⟩ = some (.int .u64 (r.sum mJoin mZero).a) ∧ X.cell? ⟨br, 9, none⟩ = some (.int .u64 (r.sum mJoin mZero).b)) (by kernel_rfl) (sumAtM H0.out.drew.r) (fun hHeld => ?_)
  refine wpAnyH_take (i := 0) (v := ?_) rfl (by kernel_rfl) (by kernel_rfl) (by kernel_rfl) (fun _ _ _ h => h) (Or.inl ⟨by rfl, ?_⟩) (by assumption) ?_
  rotate_left
  · intro w hSw
    go_simp
    try with_reducible rfl
  simp only [Act.put, List.getElem_toArray, List.getElem_cons_zero, List.setIfInBounds_toArray, List.set_cons_zero, List.set_cons_succ]
  refine wpAnyH_take (i := 2) (v := ?_) rfl (by kernel_rfl) (by kernel_rfl) (by kernel_rfl) (fun _ _ _ h => h) (Or.inl ⟨by rfl, ?_⟩) (by assumption) ?_
  rotate_left
  · intro w hSw
    go_simp
    try with_reducible rfl
  simp only [Act.put, List.getElem_toArray, List.getElem_cons_zero, List.getElem_cons_succ, List.setIfInBounds_toArray, List.set_cons_zero, List.set_cons_succ]
  refine wpAnyH_take (i := 3) (v := ?_) rfl (by kernel_rfl) (by kernel_rfl) (by kernel_rfl) (fun _ _ _ h => h) (Or.inl ⟨by rfl, ?_⟩) (by assumption) ?_
  rotate_left
  · intro w hSw
    go_simp
    try with_reducible rfl
  simp only [Act.put, List.getElem_toArray, List.getElem_cons_zero, List.getElem_cons_succ, List.setIfInBounds_toArray, List.set_cons_zero, List.set_cons_succ]
  refine wpAnyH_take (i := 4) (v := ?_) rfl (by kernel_rfl) (by kernel_rfl) (by kernel_rfl) (fun _ _ _ h => h) (Or.inl ⟨by rfl, ?_⟩) (by assumption) ?_
  rotate_left
  · intro w hSw
    go_simp
    try with_reducible rfl
  simp only [Act.put, List.getElem_toArray, List.getElem_cons_zero, List.getElem_cons_succ, List.setIfInBounds_toArray, List.set_cons_zero, List.set_cons_succ]
  refine wpAnyH_take (i := 5) (v := ?_) rfl (by kernel_rfl) (by kernel_rfl) (by kernel_rfl) (fun _ _ _ h => h) (Or.inl ⟨by rfl, ?_⟩) (by assumption) ?_
  rotate_left
  · intro w hSw
    go_simp
    try with_reducible rfl
  simp only [Act.put, List.getElem_toArray, List.getElem_cons_zero, List.getElem_cons_succ, List.setIfInBounds_toArray, List.set_cons_zero, List.set_cons_succ]
  obtain ⟨s0, s1, z0, z1⟩ := duo H0.out.drew.sm
  refine wpAnyH_ready (rs := [1]) (by kernel_rfl) (by simp) ?_
  refine AllReadyH.cons rfl (fun K hK => ?_) AllReadyH.nil
  go_simp
  refine hK.out _ _ (hHeld) (fun hHeld => ?_)
  clear hK K 
  clear s0 s1 z0 z1
  refine wpAnyH_ready (rs := [6]) (by kernel_rfl) (by simp) ?_
  refine AllReadyH.cons rfl (fun K hK => ?_) AllReadyH.nil
  go_simp
  refine (HB _ tb n root s (r.sum mJoin mZero) H0.out.drew.tobj H0.out.drew.cnt hler).mono ?_
  rintro e w9 ⟨rfl, bc, kk⟩
  refine hK.out _ _ (sumAtM (H0.out.drew.on HC.out kk bc).r) (fun hHeld => ?_)
  clear hK K 
  have H0ra := aside (H0.out.drew.on HC.out kk bc)
  obtain ⟨s0, s1, z0, z1⟩ := duo H0ra.out.sm
  clear bc kk H0
  refine wpAnyH_ready (rs := [7]) (by kernel_rfl) (by simp) ?_
  refine AllReadyH.cons rfl (fun K hK => ?_) AllReadyH.nil
  go_simp
  refine hK.out _ _ (sumAtM (H0ra.out.set HC.out (mJoin s (r.sum mJoin mZero))).r) (fun hHeld => ?_)
  clear hK K 
  have H0r := aside (H0ra.out.set HC.out (mJoin s (r.sum mJoin mZero)))
  clear hHeld s0 s1 z0 z1 H0ra
  refine wpAnyH_done (by kernel_rfl) ?_ _
  generalize (w9.setCell ⟨w.heap.size + 1, 0, none⟩ (.int .u64 (mJoin s (r.sum mJoin mZero)).a)).setCell ⟨w.heap.size + 1, 1, none⟩ (.int .u64 (mJoin s (r.sum mJoin mZero)).b) = Vr at *
  go_wp2_with fail
  refine wp_region_held_drew (S := fun X => X.cell? ⟨w.heap.size, 0, none⟩ = some (.string k) ∧ X.cell? ⟨w.heap.size, 1, none⟩ = some (.int .i64 v) ∧ X.cell? ⟨w.heap.size, 2, none⟩ = some (.int .u64 s.a) ∧ X.cell? ⟨w.heap.size, 3, none⟩ = some (.int .u64 s.b) ∧ X.cell? ⟨w.heap.size + 1, 0, none⟩ = some (.int .u64 (mJoin s (r.sum mJoin mZero)).a) ∧ X.cell? ⟨w.heap.size + 1, 1, none⟩ = some (.int .u64 (mJoin s (r.sum mJoin mZero)).b) ∧ Hid (HStM w X tb (n + 1) jv root c k v s (mJoin s (r.sum mJoin mZero)) l r none (some ⟨br, 0, none⟩))) (by kernel_rfl) H0r.out.drew.held (fun hHeld => ?_)
  refine wpAnyH_take (i := 0) (v := ?_) rfl (by kernel_rfl) (by kernel_rfl) (by kernel_rfl) (fun _ _ _ h => h) (Or.inl ⟨by rfl, ?_⟩) (by assumption) ?_
  rotate_left
  · intro w hSw
    go_simp
    try with_reducible rfl
  simp only [Act.put, List.getElem_toArray, List.getElem_cons_zero, List.setIfInBounds_toArray, List.set_cons_zero, List.set_cons_succ]
  refine wpAnyH_take (i := 1) (v := ?_) rfl (by kernel_rfl) (by kernel_rfl) (by kernel_rfl) (fun _ _ _ h => h) (Or.inl ⟨by rfl, ?_⟩) (by assumption) ?_
  rotate_left
  · intro w hSw
    go_simp
    try with_reducible rfl
  simp only [Act.put, List.getElem_toArray, List.getElem_cons_zero, List.getElem_cons_succ, List.setIfInBounds_toArray, List.set_cons_zero, List.set_cons_succ]
  refine wpAnyH_take (i := 2) (v := ?_) rfl (by kernel_rfl) (by kernel_rfl) (by kernel_rfl) (fun _ _ _ h => h) (Or.inl ⟨by rfl, ?_⟩) (by assumption) ?_
  rotate_left
  · intro w hSw
    go_simp
    try with_reducible rfl
  simp only [Act.put, List.getElem_toArray, List.getElem_cons_zero, List.getElem_cons_succ, List.setIfInBounds_toArray, List.set_cons_zero, List.set_cons_succ]
  refine wpAnyH_take (i := 3) (v := ?_) rfl (by kernel_rfl) (by kernel_rfl) (by kernel_rfl) (fun _ _ _ h => h) (Or.inl ⟨by rfl, ?_⟩) (by assumption) ?_
  rotate_left
  · intro w hSw
    go_simp
    try with_reducible rfl
  simp only [Act.put, List.getElem_toArray, List.getElem_cons_zero, List.getElem_cons_succ, List.setIfInBounds_toArray, List.set_cons_zero, List.set_cons_succ]
  refine wpAnyH_take (i := 6) (v := ?_) rfl (by kernel_rfl) (by kernel_rfl) (by kernel_rfl) (fun _ _ _ h => h) (Or.inl ⟨by rfl, ?_⟩) (by assumption) ?_
  rotate_left
  · intro w hSw
    go_simp
    try with_reducible rfl
  simp only [Act.put, List.getElem_toArray, List.getElem_cons_zero, List.getElem_cons_succ, List.setIfInBounds_toArray, List.set_cons_zero, List.set_cons_succ]
  refine wpAnyH_take (i := 9) (v := ?_) rfl (by kernel_rfl) (by kernel_rfl) (by kernel_rfl) (fun _ _ _ h => h) (Or.inl ⟨by rfl, ?_⟩) (by assumption) ?_
  rotate_left
  · intro w hSw
    go_simp
    try with_reducible rfl
  simp only [Act.put, List.getElem_toArray, List.getElem_cons_zero, List.getElem_cons_succ, List.setIfInBounds_toArray, List.set_cons_zero, List.set_cons_succ]
  refine wpAnyH_take (i := 11) (v := ?_) rfl (by kernel_rfl) (by kernel_rfl) (by kernel_rfl) (fun _ _ _ h => h) (Or.inl ⟨by rfl, ?_⟩) (by assumption) ?_
  rotate_left
  · intro w hSw
    go_simp
    try with_reducible rfl
  simp only [Act.put, List.getElem_toArray, List.getElem_cons_zero, List.getElem_cons_succ, List.setIfInBounds_toArray, List.set_cons_zero, List.set_cons_succ]
  refine wpAnyH_take (i := 15) (v := ?_) rfl (by kernel_rfl) (by kernel_rfl) (by kernel_rfl) (fun _ _ _ h => h) (Or.inl ⟨by rfl, ?_⟩) (by assumption) ?_
  rotate_left
  · intro w hSw
    go_simp
    try with_reducible rfl
  simp only [Act.put, List.getElem_toArray, List.getElem_cons_zero, List.getElem_cons_succ, List.setIfInBounds_toArray, List.set_cons_zero, List.set_cons_succ]
  refine wpAnyH_ready (rs := [4]) (by kernel_rfl) (by simp) ?_
  refine AllReadyH.cons rfl (fun K hK => ?_) AllReadyH.nil
  go_simp
  refine (rowsM hHeld.2.2.2.2.2.2.out.l).mono ?_
  rintro e w9 ⟨rfl, rfl⟩
  refine hK.out _ _ (hHeld) (fun hHeld => ?_)
  clear hK K 
  refine wpAnyH_take (i := 5) (v := ?_) rfl (by kernel_rfl) (by kernel_rfl) (by kernel_rfl) (fun _ _ _ h => h) (Or.inl ⟨by rfl, ?_⟩) (by assumption) ?_
  rotate_left
  · intro w hSw
    go_simp
    try with_reducible rfl
  simp only [Act.put, List.getElem_toArray, List.getElem_cons_zero, List.getElem_cons_succ, List.setIfInBounds_toArray, List.set_cons_zero, List.set_cons_succ]
  refine wpAnyH_ready (rs := [7]) (by kernel_rfl) (by simp) ?_
  refine AllReadyH.cons rfl (fun K hK => ?_) AllReadyH.nil
  go_simp
  refine (rowsM hHeld.2.2.2.2.2.2.out.r).mono ?_
  rintro e w9 ⟨rfl, rfl⟩
  refine hK.out _ _ (hHeld) (fun hHeld => ?_)
  clear hK K 
  refine wpAnyH_take (i := 8) (v := ?_) rfl (by kernel_rfl) (by kernel_rfl) (by kernel_rfl) (fun _ _ _ h => h) (Or.inl ⟨by rfl, ?_⟩) (by assumption) ?_
  rotate_left
  · intro w hSw
    go_simp
    try with_reducible rfl
  simp only [Act.put, List.getElem_toArray, List.getElem_cons_zero, List.getElem_cons_succ, List.setIfInBounds_toArray, List.set_cons_zero, List.set_cons_succ]
  refine wpAnyH_ready (rs := [10]) (by kernel_rfl) (by simp) ?_
  refine AllReadyH.cons rfl (fun K hK => ?_) AllReadyH.nil
  go_simp
  refine (levelsM hHeld.2.2.2.2.2.2.out.l).mono ?_
  rintro e w9 ⟨rfl, rfl⟩
  refine hK.out _ _ (hHeld) (fun hHeld => ?_)
  clear hK K 
  refine wpAnyH_ready (rs := [12]) (by kernel_rfl) (by simp) ?_
  refine AllReadyH.cons rfl (fun K hK => ?_) AllReadyH.nil
  go_simp
  refine (levelsM hHeld.2.2.2.2.2.2.out.r).mono ?_
  rintro e w9 ⟨rfl, rfl⟩
  refine hK.out _ _ (hHeld) (fun hHeld => ?_)
  clear hK K 
  refine wpAnyH_take (i := 13) (v := ?_) rfl (by kernel_rfl) (by kernel_rfl) (by kernel_rfl) (fun _ _ _ h => h) (Or.inl ⟨by rfl, ?_⟩) (by assumption) ?_
  rotate_left
  · intro w hSw
    go_simp
    try with_reducible rfl
  simp only [Act.put, List.getElem_toArray, List.getElem_cons_zero, List.getElem_cons_succ, List.setIfInBounds_toArray, List.set_cons_zero, List.set_cons_succ]
  generalize hm : (if l.ht < r.ht then (r.ht : Int) else (l.ht : Int)) = mh
  have HM := aside hm
  clear hm
  refine wpAnyH_take (i := 14) (v := ?_) rfl (by kernel_rfl) (by kernel_rfl) (by kernel_rfl) (fun _ _ _ h => h) (Or.inl ⟨by rfl, ?_⟩) (by assumption) ?_
  rotate_left
  · intro w hSw
    go_simp
    try with_reducible rfl
  simp only [Act.put, List.getElem_toArray, List.getElem_cons_zero, List.getElem_cons_succ, List.setIfInBounds_toArray, List.set_cons_zero, List.set_cons_succ]
  refine wpAnyH_take (i := 16) (v := ?_) rfl (by kernel_rfl) (by kernel_rfl) (by kernel_rfl) (fun _ _ _ h => h) (Or.inl ⟨by rfl, ?_⟩) (by assumption) ?_
  rotate_left
  · intro w hSw
    go_simp
    try with_reducible rfl
  simp only [Act.put, List.getElem_toArray, List.getElem_cons_zero, List.getElem_cons_succ, List.setIfInBounds_toArray, List.set_cons_zero, List.set_cons_succ]
  refine wpAnyH_ready (rs := [17]) (by kernel_rfl) (by simp) ?_
  refine AllReadyH.cons rfl (fun K hK => ?_) AllReadyH.nil
  go_simp
  refine hK.out _ _ ((hHeld.2.2.2.2.2.2.out.alloc _).held) (fun hHeld => ?_)
  clear hK K 
  refine wpAnyH_take (i := 18) (v := ?_) rfl (by kernel_rfl) (by kernel_rfl) (by kernel_rfl) (fun _ _ _ h => h) (Or.inl ⟨by rfl, ?_⟩) (by assumption) ?_
  rotate_left
  · intro w hSw
    go_simp
    try with_reducible rfl
  simp only [Act.put, List.getElem_toArray, List.getElem_cons_zero, List.getElem_cons_succ, List.setIfInBounds_toArray, List.set_cons_zero, List.set_cons_succ]
  refine wpAnyH_done (by kernel_rfl) ?_ _
  go_wp2
  refine bodyPost_ret (v := .pointer (some ⟨Vr.heap.size, 0, none⟩)) (by simp [results, Try.results50, go_sem]) rfl ?_
  exact hangDoneM (n0 := n) HM.out H0r.out (by simp [Tr.sum, hnl, hnr]) (by simp [Tr.hangC, hnl, hnr]) HW.out

end Go.Proofs.Ytnlmlhoddchgbaa
namespace Go.Proofs.Ytnlmlhoddchgbaa
open Go.RowKit
set_option linter.unusedVariables false

set_option maxHeartbeats 3200000 in
set_option maxRecDepth 100000 in
theorem hangM10 {jv : Value} {c : Option Nat} (HB : BothOkM jv c) {w : World} {tb n : Nat} {root : Option Addr} {l r : Tr Int Mp} {bl : Nat} (k : ByteArray) (v : Int) (s : Mp)
    (ht : TObjM w tb jv root) (hc : Cnt c n w) (hl : IsTM w (some ⟨bl, 0, none⟩) l) (hr : IsTM w none r) (hw : (Tr.node l k v s r).wt mSz ≤ 4611686018427387904) (hnl : l.isNil = false) (hnr : r.isNil = true) :
    Calls Try.prog 50 #[.pointer (some ⟨tb, 0, none⟩), .agg #[.string k, .int .i64 v, .int .u64 s.a, .int .u64 s.b], .pointer (some ⟨bl, 0, none⟩), .pointer none] w fun e w' => ∃ p, e = .returned (.pointer p) ∧ IsTM w' p (Tr.node l k v s r) ∧ Cnt c (n + Tr.hangC l r) w' ∧ Keeps (OnC c) w w' := by
  have H0 := aside (hstM k v s ht hc hl hr)
  have HC := aside hc
  have HW := aside hw
  simp only [Tr.wt] at hw
  have hsl := Tr.sum_le mSz_le mZero l hnl
  have hlel : mSz (l.sum mJoin mZero) + mSz s ≤ 4611686018427387904 := by omega
  clear ht hc hl hr hw hsl
  go_enter Try.func50, Try.ntmps50
  go_wp2_with fail
  generalize (w.alloc (.cells #[.string k, .int .i64 v, .int .u64 s.a, .int .u64 s.b] 92)).alloc (.cells #[.int .u64 s.a, .int .u64 s.b] 28) = V at *
  refine wp_region_held_drew (S := fun X => X.cell? ⟨bl, 8, none⟩ = some (.int .u64 (l.sum mJoin mZero).a) ∧ X.cell? ⟨bl, 9, none⟩ = some (.int .u64 (l.sum mJoin mZero).b)) (by kernel_rfl) (sumAtM H0.out.drew.l) (fun hHeld => ?_)
  refine wpAnyH_take (i := 0) (v := ?_) rfl (by kernel_rfl) (by kernel_rfl) (by kernel_rfl) (fun _ _ _ h => h) (Or.inl ⟨by rfl, ?_⟩) (by assumption) ?_
  rotate_left
  · intro w hSw
    go_simp
    try with_reducible rfl
  simp only [Act.put, List.getElem_toArray, List.getElem_cons_zero, List.setIfInBounds_toArray, List.set_cons_zero, List.set_cons_succ]
  refine wpAnyH_take (i := 1) (v := ?_) rfl (by kernel_rfl) (by kernel_rfl) (by kernel_rfl) (fun _ _ _ h => h) (Or.inl ⟨by rfl, ?_⟩) (by assumption) ?_
  rotate_left
  · intro w hSw
    go_simp
    try with_reducible rfl
  simp only [Act.put, List.getElem_toArray, List.getElem_cons_zero, List.getElem_cons_succ, List.setIfInBounds_toArray, List.set_cons_zero, List.set_cons_succ]
  refine wpAnyH_take (i := 2) (v := ?_) rfl (by kernel_rfl) (by kernel_rfl) (by kernel_rfl) (fun _ _ _ h => h) (Or.inl ⟨by rfl, ?_⟩) (by assumption) ?_
  rotate_left
  · intro w hSw
    go_simp
    try with_reducible rfl
  simp only [Act.put, List.getElem_toArray, List.getElem_cons_zero, List.getElem_cons_succ, List.setIfInBounds_toArray, List.set_cons_zero, List.set_cons_succ]
  refine wpAnyH_take (i := 3) (v := ?_) rfl (by kernel_rfl) (by kernel_rfl) (by kernel_rfl) (fun _ _ _ h => h) (Or.inl ⟨by rfl, ?_⟩) (by assumption) ?_
  rotate_left
  · intro w hSw
    go_simp
    try with_reducible rfl
  simp only [Act.put, List.getElem_toArray, List.getElem_cons_zero, List.getElem_cons_succ, List.setIfInBounds_toArray, List.set_cons_zero, List.set_cons_succ]
  refine wpAnyH_take (i := 4) (v := ?_) rfl (by kernel_rfl) (by kernel_rfl) (by kernel_rfl) (fun _ _ _ h => h) (Or.inl ⟨by rfl, ?_⟩) (by assumption) ?_
  rotate_left
  · intro w hSw
    go_simp
    try with_reducible rfl
  simp only [Act.put, List.getElem_toArray, List.getElem_cons_zero, List.getElem_cons_succ, List.setIfInBounds_toArray, List.set_cons_zero, List.set_cons_succ]
  obtain ⟨s0, s1, z0, z1⟩ := duo H0.out.drew.sm
  refine wpAnyH_ready (rs := [5]) (by kernel_rfl) (by simp) ?_
  refine AllReadyH.cons rfl (fun K hK => ?_) AllReadyH.nil
  go_simp
  refine hK.out _ _ (hHeld) (fun hHeld => ?_)
  clear hK K 
  clear s0 s1 z0 z1
  refine wpAnyH_ready (rs := [6]) (by kernel_rfl) (by simp) ?_
  refine AllReadyH.cons rfl (fun K hK => ?_) AllReadyH.nil
  go_simp
  refine (HB _ tb n root (l.sum mJoin mZero) s H0.out.drew.tobj H0.out.drew.cnt hlel).mono ?_
  rintro e w9 ⟨rfl, bc, kk⟩
  refine hK.out _ _ (sumAtM (H0.out.drew.on HC.out kk bc).l) (fun hHeld => ?_)
  clear hK K 
  have H0la := aside (H0.out.drew.on HC.out kk bc)
  obtain ⟨s0, s1, z0, z1⟩ := duo H0la.out.sm
  clear bc kk H0
  refine wpAnyH_ready (rs := [7]) (by kernel_rfl) (by simp) ?_
  refine AllReadyH.cons rfl (fun K hK => ?_) AllReadyH.nil
  go_simp
  refine hK.out _ _ (sumAtM (H0la.out.set HC.out (mJoin (l.sum mJoin mZero) s)).l) (fun hHeld => ?_)
  clear hK K 
  have H0l := aside (H0la.out.set HC.out (mJoin (l.sum mJoin mZero) s))
  clear hHeld s0 s1 z0 z1 H0la
  refine wpAnyH_done (by kernel_rfl) ?_ _
  generalize (w9.setCell ⟨w.heap.size + 1, 0, none⟩ (.int .u64 (mJoin (l.sum mJoin mZero) s).a)).setCell ⟨w.heap.size + 1, 1, none⟩ (.int .u64 (mJoin (l.sum mJoin mZero) s).b) = Vl at *
  go_wp2_with fail
  refine wp_region_held_drew (S := fun X => X.cell? ⟨w.heap.size, 0, none⟩ = some (.string k) ∧ X.cell? ⟨w.heap.size, 1, none⟩ = some (.int .i64 v) ∧ X.cell? ⟨w.heap.size, 2, none⟩ = some (.int .u64 s.a) ∧ X.cell? ⟨w.heap.size, 3, none⟩ = some (.int .u64 s.b) ∧ X.cell? ⟨w.heap.size + 1, 0, none⟩ = some (.int .u64 (mJoin (l.sum mJoin mZero) s).a) ∧ X.cell? ⟨w.heap.size + 1, 1, none⟩ = some (.int .u64 (mJoin (l.sum mJoin mZero) s).b) ∧ Hid (HStM w X tb (n + 1) jv root c k v s (mJoin (l.sum mJoin mZero) s) l r (some ⟨bl, 0, none⟩) none)) (by kernel_rfl) H0l.out.drew.held (fun hHeld => ?_)
  refine wpAnyH_take (i := 0) (v := ?_) rfl (by kernel_rfl) (by kernel_rfl) (by kernel_rfl) (fun _ _ _ h => h) (Or.inl ⟨by rfl, ?_⟩) (by assumption) ?_
  rotate_left
  · intro w hSw
    go_simp
    try with_reducible rfl
  simp only [Act.put, List.getElem_toArray, List.getElem_cons_zero, List.setIfInBounds_toArray, List.set_cons_zero, List.set_cons_succ]
  refine wpAnyH_take (i := 1) (v := ?_) rfl (by kernel_rfl) (by kernel_rfl) (by kernel_rfl) (fun _ _ _ h => h) (Or.inl ⟨by rfl, ?_⟩) (by assumption) ?_
  rotate_left
  · intro w hSw
    go_simp
    try with_reducible rfl
  simp only [Act.put, List.getElem_toArray, List.getElem_cons_zero, List.getElem_cons_succ, List.setIfInBounds_toArray, List.set_cons_zero, List.set_cons_succ]
  refine wpAnyH_take (i := 2) (v := ?_) rfl (by kernel_rfl) (by kernel_rfl) (by kernel_rfl) (fun _ _ _ h => h) (Or.inl ⟨by rfl, ?_⟩) (by assumption) ?_
  rotate_left
  · intro w hSw
    go_simp
    try with_reducible rfl
  simp only [Act.put, List.getElem_toArray, List.getElem_cons_zero, List.getElem_cons_succ, List.setIfInBounds_toArray, List.set_cons_zero, List.set_cons_succ]
  refine wpAnyH_take (i := 3) (v := ?_) rfl (by kernel_rfl) (by kernel_rfl) (by kernel_rfl) (fun _ _ _ h => h) (Or.inl ⟨by rfl, ?_⟩) (by assumption) ?_
  rotate_left
  · intro w hSw
    go_simp
    try with_reducible rfl
  simp only [Act.put, List.getElem_toArray, List.getElem_cons_zero, List.getElem_cons_succ, List.setIfInBounds_toArray, List.set_cons_zero, List.set_cons_succ]
  refine wpAnyH_take (i := 6) (v := ?_) rfl (by kernel_rfl) (by kernel_rfl) (by kernel_rfl) (fun _ _ _ h => h) (Or.inl ⟨by rfl, ?_⟩) (by assumption) ?_
  rotate_left
  · intro w hSw
    go_simp
    try with_reducible rfl
  simp only [Act.put, List.getElem_toArray, List.getElem_cons_zero, List.getElem_cons_succ, List.setIfInBounds_toArray, List.set_cons_zero, List.set_cons_succ]
  refine wpAnyH_take (i := 9) (v := ?_) rfl (by kernel_rfl) (by kernel_rfl) (by kernel_rfl) (fun _ _ _ h => h) (Or.inl ⟨by rfl, ?_⟩) (by assumption) ?_
  rotate_left
  · intro w hSw
    go_simp
    try with_reducible rfl
  simp only [Act.put, List.getElem_toArray, List.getElem_cons_zero, List.getElem_cons_succ, List.setIfInBounds_toArray, List.set_cons_zero, List.set_cons_succ]
  refine wpAnyH_take (i := 11) (v := ?_) rfl (by kernel_rfl) (by kernel_rfl) (by kernel_rfl) (fun _ _ _ h => h) (Or.inl ⟨by rfl, ?_⟩) (by assumption) ?_
  rotate_left
  · intro w hSw
    go_simp
    try with_reducible rfl
  simp only [Act.put, List.getElem_toArray, List.getElem_cons_zero, List.getElem_cons_succ, List.setIfInBounds_toArray, List.set_cons_zero, List.set_cons_succ]
  refine wpAnyH_take (i := 15) (v := ?_) rfl (by kernel_rfl) (by kernel_rfl) (by kernel_rfl) (fun _ _ _ h => h) (Or.inl ⟨by rfl, ?_⟩) (by assumption) ?_
  rotate_left
  · intro w hSw
    go_simp
    try with_reducible rfl
  simp only [Act.put, List.getElem_toArray, List.getElem_cons_zero, List.getElem_cons_succ, List.setIfInBounds_toArray, List.set_cons_zero, List.set_cons_succ]
  refine wpAnyH_ready (rs := [4]) (by kernel_rfl) (by simp) ?_
  refine AllReadyH.cons rfl (fun K hK => ?_) AllReadyH.nil
  go_simp
  refine (rowsM hHeld.2.2.2.2.2.2.out.l).mono ?_
  rintro e w9 ⟨rfl, rfl⟩
  refine hK.out _ _ (hHeld) (fun hHeld => ?_)
  clear hK K 
  refine wpAnyH_take (i := 5) (v := ?_) rfl (by kernel_rfl) (by kernel_rfl) (by kernel_rfl) (fun _ _ _ h => h) (Or.inl ⟨by rfl, ?_⟩) (by assumption) ?_
  rotate_left
  · intro w hSw
    go_simp
    try with_reducible rfl
  simp only [Act.put, List.getElem_toArray, List.getElem_cons_zero, List.getElem_cons_succ, List.setIfInBounds_toArray, List.set_cons_zero, List.set_cons_succ]
  refine wpAnyH_ready (rs := [7]) (by kernel_rfl) (by simp) ?_
  refine AllReadyH.cons rfl (fun K hK => ?_) AllReadyH.nil
  go_simp
  refine (rowsM hHeld.2.2.2.2.2.2.out.r).mono ?_
  rintro e w9 ⟨rfl, rfl⟩
  refine hK.out _ _ (hHeld) (fun hHeld => ?_)
  clear hK K 
  refine wpAnyH_take (i := 8) (v := ?_) rfl (by kernel_rfl) (by kernel_rfl) (by kernel_rfl) (fun _ _ _ h => h) (Or.inl ⟨by rfl, ?_⟩) (by assumption) ?_
  rotate_left
  · intro w hSw
    go_simp
    try with_reducible rfl
  simp only [Act.put, List.getElem_toArray, List.getElem_cons_zero, List.getElem_cons_succ, List.setIfInBounds_toArray, List.set_cons_zero, List.set_cons_succ]
  refine wpAnyH_ready (rs := [10]) (by kernel_rfl) (by simp) ?_
  refine AllReadyH.cons rfl (fun K hK => ?_) AllReadyH.nil
  go_simp
  refine (levelsM hHeld.2.2.2.2.2.2.out.l).mono ?_
  rintro e w9 ⟨rfl, rfl⟩
  refine hK.out _ _ (hHeld) (fun hHeld => ?_)
  clear hK K 
  refine wpAnyH_ready (rs := [12]) (by kernel_rfl) (by simp) ?_
  refine AllReadyH.cons rfl (fun K hK => ?_) AllReadyH.nil
  go_simp
  refine (levelsM hHeld.2.2.2.2.2.2.out.r).mono ?_
  rintro e w9 ⟨rfl, rfl⟩
  refine hK.out _ _ (hHeld) (fun hHeld => ?_)
  clear hK K 
  refine wpAnyH_take (i := 13) (v := ?_) rfl (by kernel_rfl) (by kernel_rfl) (by kernel_rfl) (fun _ _ _ h => h) (Or.inl ⟨by rfl, ?_⟩) (by assumption) ?_
  rotate_left
  · intro w hSw
    go_simp
    try with_reducible rfl
  simp only [Act.put, List.getElem_toArray, List.getElem_cons_zero, List.getElem_cons_succ, List.setIfInBounds_toArray, List.set_cons_zero, List.set_cons_succ]
  generalize hm : (if l.ht < r.ht then (r.ht : Int) else (l.ht : Int)) = mh
  have HM := aside hm
  clear hm
  refine wpAnyH_take (i := 14) (v := ?_) rfl (by kernel_rfl) (by kernel_rfl) (by kernel_rfl) (fun _ _ _ h => h) (Or.inl ⟨by rfl, ?_⟩) (by assumption) ?_
  rotate_left
  · intro w hSw
    go_simp
    try with_reducible rfl
  simp only [Act.put, List.getElem_toArray, List.getElem_cons_zero, List.getElem_cons_succ, List.setIfInBounds_toArray, List.set_cons_zero, List.set_cons_succ]
  refine wpAnyH_take (i := 16) (v := ?_) rfl (by kernel_rfl) (by kernel_rfl) (by kernel_rfl) (fun _ _ _ h => h) (Or.inl ⟨by rfl, ?_⟩) (by assumption) ?_
  rotate_left
  · intro w hSw
    go_simp
    try with_reducible rfl
  simp only [Act.put, List.getElem_toArray, List.getElem_cons_zero, List.getElem_cons_succ, List.setIfInBounds_toArray, List.set_cons_zero, List.set_cons_succ]
  refine wpAnyH_ready (rs := [17]) (by kernel_rfl) (by simp) ?_
  refine AllReadyH.cons rfl (fun K hK => ?_) AllReadyH.nil
  go_simp
  refine hK.out _ _ ((hHeld.2.2.2.2.2.2.out.alloc _).held) (fun hHeld => ?_)
  clear hK K 
  refine wpAnyH_take (i := 18) (v := ?_) rfl (by kernel_rfl) (by kernel_rfl) (by kernel_rfl) (fun _ _ _ h => h) (Or.inl ⟨by rfl, ?_⟩) (by assumption) ?_
  rotate_left
  · intro w hSw
    go_simp
    try with_reducible rfl
  simp only [Act.put, List.getElem_toArray, List.getElem_cons_zero, List.getElem_cons_succ, List.setIfInBounds_toArray, List.set_cons_zero, List.set_cons_succ]
  refine wpAnyH_done (by kernel_rfl) ?_ _
  go_wp2
  refine bodyPost_ret (v := .pointer (some ⟨Vl.heap.size, 0, none⟩)) (by simp [results, Try.results50, go_sem]) rfl ?_
  exact hangDoneM (n0 := n) HM.out H0l.out (by simp [Tr.sum, hnl, hnr]) (by simp [Tr.hangC, hnl, hnr]) HW.out

end Go.Proofs.Ytnlmlhoddchgbaa
namespace Go.Proofs.Ytnlmlhoddchgbaa
open Go.RowKit
set_option linter.unusedVariables false

set_option maxHeartbeats 3200000 in
set_option maxRecDepth 100000 in
theorem hangM11 {jv : Value} {c : Option Nat} (HB : BothOkM jv c) {w : World} {tb n : Nat} {root : Option Addr} {l r : Tr Int Mp} {bl : Nat} {br : Nat} (k : ByteArray) (v : Int) (s : Mp)
    (ht : TObjM w tb jv root) (hc : Cnt c n w) (hl : IsTM w (some ⟨bl, 0, none⟩) l) (hr : IsTM w (some ⟨br, 0, none⟩) r) (hw : (Tr.node l k v s r).wt mSz ≤ 4611686018427387904) (hnl : l.isNil = false) (hnr : r.isNil = false) :
    Calls Try.prog 50 #[.pointer (some ⟨tb, 0, none⟩), .agg #[.string k, .int .i64 v, .int .u64 s.a, .int .u64 s.b], .pointer (some ⟨bl, 0, none⟩), .pointer (some ⟨br, 0, none⟩)] w fun e w' => ∃ p, e = .returned (.pointer p) ∧ IsTM w' p (Tr.node l k v s r) ∧ Cnt c (n + Tr.hangC l r) w' ∧ Keeps (OnC c) w w' := by
  have H0 := aside (hstM k v s ht hc hl hr)
  have HC := aside hc
  have HW := aside hw
  simp only [Tr.wt] at hw
  have hsl := Tr.sum_le mSz_le mZero l hnl
  have hlel : mSz (l.sum mJoin mZero) + mSz s ≤ 4611686018427387904 := by omega
  have hx := mSz_le (l.sum mJoin mZero) s
  have hsr := Tr.sum_le mSz_le mZero r hnr
  have hler : mSz (mJoin (l.sum mJoin mZero) s) + mSz (r.sum mJoin mZero) ≤ 4611686018427387904 := by omega
  clear ht hc hl hr hw hsl hsr hx
  go_enter Try.func50, Try.ntmps50
  go_wp2_with fail
  generalize (w.alloc (.cells #[.string k, .int .i64 v, .int .u64 s.a, .int .u64 s.b] 92)).alloc (.cells #[.int .u64 s.a, .int .u64 s.b] 28) = V at *
  refine wp_region_held_drew (S := fun X => X.cell? ⟨bl, 8, none⟩ = some (.int .u64 (l.sum mJoin mZero).a) ∧ X.cell? ⟨bl, 9, none⟩ = some (.int .u64 (l.sum mJoin mZero).b)) (by kernel_rfl) (sumAtM H0.out.drew.l) (fun hHeld => ?_)
  refine wpAnyH_take (i := 0) (v := ?_) rfl (by kernel_rfl) (by kernel_rfl) (by kernel_rfl) (fun _ _ _ h => h) (Or.inl ⟨by rfl, ?_⟩) (by assumption) ?_
  rotate_left
  · intro w hSw
    go_simp
    try with_reducible rfl
  simp only [Act.put, List.getElem_toArray, List.getElem_cons_zero, List.setIfInBounds_toArray, List.set_cons_zero, List.set_cons_succ]
  refine wpAnyH_take (i := 1) (v := ?_) rfl (by kernel_rfl) (by kernel_rfl) (by kernel_rfl) (fun _ _ _ h => h) (Or.inl ⟨by rfl, ?_⟩) (by assumption) ?_
  rotate_left
  · intro w hSw
    go_simp
    try with_reducible rfl
  simp only [Act.put, List.getElem_toArray, List.getElem_cons_zero, List.getElem_cons_succ, List.setIfInBounds_toArray, List.set_cons_zero, List.set_cons_succ]
  refine wpAnyH_take (i := 2) (v := ?_) rfl (by kernel_rfl) (by kernel_rfl) (by kernel_rfl) (fun _ _ _ h => h) (Or.inl ⟨by rfl, ?_⟩) (by assumption) ?_
  rotate_left
  · intro w hSw
    go_simp
    try with_reducible rfl
  simp only [Act.put, List.getElem_toArray, List.getElem_cons_zero, List.getElem_cons_succ, List.setIfInBounds_toArray, List.set_cons_zero, List.set_cons_succ]
  refine wpAnyH_take (i := 3) (v := ?_) rfl (by kernel_rfl) (by kernel_rfl) (by kernel_rfl) (fun _ _ _ h => h) (Or.inl ⟨by rfl, ?_⟩) (by assumption) ?_
  rotate_left
  · intro w hSw
    go_simp
    try with_reducible rfl
  simp only [Act.put, List.getElem_toArray, List.getElem_cons_zero, List.getElem_cons_succ, List.setIfInBounds_toArray, List.set_cons_zero, List.set_cons_succ]
  refine wpAnyH_take (i := 4) (v := ?_) rfl (by kernel_rfl) (by kernel_rfl) (by kernel_rfl) (fun _ _ _ h => h) (Or.inl ⟨by rfl, ?_⟩) (by assumption) ?_
  rotate_left
  · intro w hSw
    go_simp
    try with_reducible rfl
  simp only [Act.put, List.getElem_toArray, List.getElem_cons_zero, List.getElem_cons_succ, List.setIfInBounds_toArray, List.set_cons_zero, List.set_cons_succ]
  obtain ⟨s0, s1, z0, z1⟩ := duo H0.out.drew.sm
  refine wpAnyH_ready (rs := [5]) (by kernel_rfl) (by simp) ?_
  refine AllReadyH.cons rfl (fun K hK => ?_) AllReadyH.nil
  go_simp
  refine hK.out _ _ (hHeld) (fun hHeld => ?_)
  clear hK K 
  clear s0 s1 z0 z1
  refine wpAnyH_ready (rs := [6]) (by kernel_rfl) (by simp) ?_
  refine AllReadyH.cons rfl (fun K hK => ?_) AllReadyH.nil
  go_simp
  refine (HB _ tb n root (l.sum mJoin mZero) s H0.out.drew.tobj H0.out.drew.cnt hlel).mono ?_
  rintro e w9 ⟨rfl, bc, kk⟩
  refine hK.out _ _ (sumAtM (H0.out.drew.on HC.out kk bc).l) (fun hHeld => ?_)
  clear hK K 
  have H0la := aside (H0.out.drew.on HC.out kk bc)
  obtain ⟨s0, s1, z0, z1⟩ := duo H0la.out.sm
  clear bc kk H0
  refine wpAnyH_ready (rs := [7]) (by kernel_rfl) (by simp) ?_
  refine AllReadyH.cons rfl (fun K hK => ?_) AllReadyH.nil
  go_simp
  refine hK.out _ _ (sumAtM (H0la.out.set HC.out (mJoin (l.sum mJoin mZero) s)).l) (fun hHeld => ?_)
  clear hK K 
  have H0l := aside (H0la.out.set HC.out (mJoin (l.sum mJoin mZero) s))
  clear hHeld s0 s1 z0 z1 H0la
  refine wpAnyH_done (by kernel_rfl) ?_ _
  generalize (w9.setCell ⟨w.heap.size + 1, 0, none⟩ (.int .u64 (mJoin (l.sum mJoin mZero) s).a)).setCell ⟨w.heap.size + 1, 1, none⟩ (.int .u64 (mJoin (l.sum mJoin mZero) s).b) = Vl at *
  go_wp2_with fail
  refine wp_region_held_drew (S := fun X => X.cell? ⟨br, 8, none⟩ = some (.int .u64 (r.sum mJoin mZero).a) ∧ X.cell? ⟨br, 9, none⟩ = some (.int .u64 (r.sum mJoin mZero).b)) (by kernel_rfl) (sumAtM H0l.out.drew.r) (fun hHeld => ?_)
  refine wpAnyH_take (i := 0) (v := ?_) rfl (by kernel_rfl) (by kernel_rfl) (by kernel_rfl) (fun _ _ _ h => h) (Or.inl ⟨by rfl, ?_⟩) (by assumption) ?_
  rotate_left
  · intro w hSw
    go_simp
    try with_reducible rfl
  simp only [Act.put, List.getElem_toArray, List.getElem_cons_zero, List.setIfInBounds_toArray, List.set_cons_zero, List.set_cons_succ]
  refine wpAnyH_take (i := 2) (v := ?_) rfl (by kernel_rfl) (by kernel_rfl) (by kernel_rfl) (fun _ _ _ h => h) (Or.inl ⟨by rfl, ?_⟩) (by assumption) ?_
  rotate_left
  · intro w hSw
    go_simp
    try with_reducible rfl
  simp only [Act.put, List.getElem_toArray, List.getElem_cons_zero, List.getElem_cons_succ, List.setIfInBounds_toArray, List.set_cons_zero, List.set_cons_succ]
  refine wpAnyH_take (i := 3) (v := ?_) rfl (by kernel_rfl) (by kernel_rfl) (by kernel_rfl) (fun _ _ _ h => h) (Or.inl ⟨by rfl, ?_⟩) (by assumption) ?_
  rotate_left
  · intro w hSw
    go_simp
    try with_reducible rfl
  simp only [Act.put, List.getElem_toArray, List.getElem_cons_zero, List.getElem_cons_succ, List.setIfInBounds_toArray, List.set_cons_zero, List.set_cons_succ]
  refine wpAnyH_take (i := 4) (v := ?_) rfl (by kernel_rfl) (by kernel_rfl) (by kernel_rfl) (fun _ _ _ h => h) (Or.inl ⟨by rfl, ?_⟩) (by assumption) ?_
  rotate_left
  · intro w hSw
    go_simp
    try with_reducible rfl
  simp only [Act.put, List.getElem_toArray, List.getElem_cons_zero, List.getElem_cons_succ, List.setIfInBounds_toArray, List.set_cons_zero, List.set_cons_succ]
  refine wpAnyH_take (i := 5) (v := ?_) rfl (by kernel_rfl) (by kernel_rfl) (by kernel_rfl) (fun _ _ _ h => h) (Or.inl ⟨by rfl, ?_⟩) (by assumption) ?_
  rotate_left
  · intro w hSw
    go_simp
    try with_reducible rfl
  simp only [Act.put, List.getElem_toArray, List.getElem_cons_zero, List.getElem_cons_succ, List.setIfInBounds_toArray, List.set_cons_zero, List.set_cons_succ]
  obtain ⟨s0, s1, z0, z1⟩ := duo H0l.out.drew.sm
  refine wpAnyH_ready (rs := [1]) (by kernel_rfl) (by simp) ?_
  refine AllReadyH.cons rfl (fun K hK => ?_) AllReadyH.nil
  go_simp
  refine hK.out _ _ (hHeld) (fun hHeld => ?_)
  clear hK K 
  clear s0 s1 z0 z1
  refine wpAnyH_ready (rs := [6]) (by kernel_rfl) (by simp) ?_
  refine AllReadyH.cons rfl (fun K hK => ?_) AllReadyH.nil
  go_simp
  refine (HB _ tb (n + 1) root (mJoin (l.sum mJoin mZero) s) (r.sum mJoin mZero) H0l.out.drew.tobj H0l.out.drew.cnt hler).mono ?_
  rintro e w9 ⟨rfl, bc, kk⟩
  refine hK.out _ _ (sumAtM (H0l.out.drew.on HC.out kk bc).r) (fun hHeld => ?_)
  clear hK K 
  have H0lra := aside (H0l.out.drew.on HC.out kk bc)
  obtain ⟨s0, s1, z0, z1⟩ := duo H0lra.out.sm
  clear bc kk H0l
  refine wpAnyH_ready (rs := [7]) (by kernel_rfl) (by simp) ?_
  refine AllReadyH.cons rfl (fun K hK => ?_) AllReadyH.nil
  go_simp
  refine hK.out _ _ (sumAtM (H0lra.out.set HC.out (mJoin (mJoin (l.sum mJoin mZero) s) (r.sum mJoin mZero))).r) (fun hHeld => ?_)
  clear hK K 
  have H0lr := aside (H0lra.out.set HC.out (mJoin (mJoin (l.sum mJoin mZero) s) (r.sum mJoin mZero)))
  clear hHeld s0 s1 z0 z1 H0lra
  refine wpAnyH_done (by kernel_rfl) ?_ _
  generalize (w9.setCell ⟨w.heap.size + 1, 0, none⟩ (.int .u64 (mJoin (mJoin (l.sum mJoin mZero) s) (r.sum mJoin mZero)).a)).setCell ⟨w.heap.size + 1, 1, none⟩ (.int .u64 (mJoin (mJoin (l.sum mJoin mZero) s) (r.sum mJoin mZero)).b) = Vr at *
  go_wp2_with fail
  refine wp_region_held_drew (S := fun X => X.cell? ⟨w.heap.size, 0, none⟩ = some (.string k) ∧ X.cell? ⟨w.heap.size, 1, none⟩ = some (.int .i64 v) ∧ X.cell? ⟨w.heap.size, 2, none⟩ = some (.int .u64 s.a) ∧ X.cell? ⟨w.heap.size, 3, none⟩ = some (.int .u64 s.b) ∧ X.cell? ⟨w.heap.size + 1, 0, none⟩ = some (.int .u64 (mJoin (mJoin (l.sum mJoin mZero) s) (r.sum mJoin mZero)).a) ∧ X.cell? ⟨w.heap.size + 1, 1, none⟩ = some (.int .u64 (mJoin (mJoin (l.sum mJoin mZero) s) (r.sum mJoin mZero)).b) ∧ Hid (HStM w X tb ((n + 1) + 1) jv root c k v s (mJoin (mJoin (l.sum mJoin mZero) s) (r.sum mJoin mZero)) l r (some ⟨bl, 0, none⟩) (some ⟨br, 0, none⟩))) (by kernel_rfl) H0lr.out.drew.held (fun hHeld => ?_)
  refine wpAnyH_take (i := 0) (v := ?_) rfl (by kernel_rfl) (by kernel_rfl) (by kernel_rfl) (fun _ _ _ h => h) (Or.inl ⟨by rfl, ?_⟩) (by assumption) ?_
  rotate_left
  · intro w hSw
    go_simp
    try with_reducible rfl
  simp only [Act.put, List.getElem_toArray, List.getElem_cons_zero, List.setIfInBounds_toArray, List.set_cons_zero, List.set_cons_succ]
  refine wpAnyH_take (i := 1) (v := ?_) rfl (by kernel_rfl) (by kernel_rfl) (by kernel_rfl) (fun _ _ _ h => h) (Or.inl ⟨by rfl, ?_⟩) (by assumption) ?_
  rotate_left
  · intro w hSw
    go_simp
    try with_reducible rfl
  simp only [Act.put, List.getElem_toArray, List.getElem_cons_zero, List.getElem_cons_succ, List.setIfInBounds_toArray, List.set_cons_zero, List.set_cons_succ]
  refine wpAnyH_take (i := 2) (v := ?_) rfl (by kernel_rfl) (by kernel_rfl) (by kernel_rfl) (fun _ _ _ h => h) (Or.inl ⟨by rfl, ?_⟩) (by assumption) ?_
  rotate_left
  · intro w hSw
    go_simp
    try with_reducible rfl
  simp only [Act.put, List.getElem_toArray, List.getElem_cons_zero, List.getElem_cons_succ, List.setIfInBounds_toArray, List.set_cons_zero, List.set_cons_succ]
  refine wpAnyH_take (i := 3) (v := ?_) rfl (by kernel_rfl) (by kernel_rfl) (by kernel_rfl) (fun _ _ _ h => h) (Or.inl ⟨by rfl, ?_⟩) (by assumption) ?_
  rotate_left
  · intro w hSw
    go_simp
    try with_reducible rfl
  simp only [Act.put, List.getElem_toArray, List.getElem_cons_zero, List.getElem_cons_succ, List.setIfInBounds_toArray, List.set_cons_zero, List.set_cons_succ]
  refine wpAnyH_take (i := 6) (v := ?_) rfl (by kernel_rfl) (by kernel_rfl) (by kernel_rfl) (fun _ _ _ h => h) (Or.inl ⟨by rfl, ?_⟩) (by assumption) ?_
  rotate_left
  · intro w hSw
    go_simp
    try with_reducible rfl
  simp only [Act.put, List.getElem_toArray, List.getElem_cons_zero, List.getElem_cons_succ, List.setIfInBounds_toArray, List.set_cons_zero, List.set_cons_succ]
  refine wpAnyH_take (i := 9) (v := ?_) rfl (by kernel_rfl) (by kernel_rfl) (by kernel_rfl) (fun _ _ _ h => h) (Or.inl ⟨by rfl, ?_⟩) (by assumption) ?_
  rotate_left
  · intro w hSw
    go_simp
    try with_reducible rfl
  simp only [Act.put, List.getElem_toArray, List.getElem_cons_zero, List.getElem_cons_succ, List.setIfInBounds_toArray, List.set_cons_zero, List.set_cons_succ]
  refine wpAnyH_take (i := 11) (v := ?_) rfl (by kernel_rfl) (by kernel_rfl) (by kernel_rfl) (fun _ _ _ h => h) (Or.inl ⟨by rfl, ?_⟩) (by assumption) ?_
  rotate_left
  · intro w hSw
    go_simp
    try with_reducible rfl
  simp only [Act.put, List.getElem_toArray, List.getElem_cons_zero, List.getElem_cons_succ, List.setIfInBounds_toArray, List.set_cons_zero, List.set_cons_succ]
  refine wpAnyH_take (i := 15) (v := ?_) rfl (by kernel_rfl) (by kernel_rfl) (by kernel_rfl) (fun _ _ _ h => h) (Or.inl ⟨by rfl, ?_⟩) (by assumption) ?_
  rotate_left
  · intro w hSw
    go_simp
    try with_reducible rfl
  simp only [Act.put, List.getElem_toArray, List.getElem_cons_zero, List.getElem_cons_succ, List.setIfInBounds_toArray, List.set_cons_zero, List.set_cons_succ]
  refine wpAnyH_ready (rs := [4]) (by kernel_rfl) (by simp) ?_
  refine AllReadyH.cons rfl (fun K hK => ?_) AllReadyH.nil
  go_simp
  refine (rowsM hHeld.2.2.2.2.2.2.out.l).mono ?_
  rintro e w9 ⟨rfl, rfl⟩
  refine hK.out _ _ (hHeld) (fun hHeld => ?_)
  clear hK K 
  refine wpAnyH_take (i := 5) (v := ?_) rfl (by kernel_rfl) (by kernel_rfl) (by kernel_rfl) (fun _ _ _ h => h) (Or.inl ⟨by rfl, ?_⟩) (by assumption) ?_
  rotate_left
  · intro w hSw
    go_simp
    try with_reducible rfl
  simp only [Act.put, List.getElem_toArray, List.getElem_cons_zero, List.getElem_cons_succ, List.setIfInBounds_toArray, List.set_cons_zero, List.set_cons_succ]
  refine wpAnyH_ready (rs := [7]) (by kernel_rfl) (by simp) ?_
  refine AllReadyH.cons rfl (fun K hK => ?_) AllReadyH.nil
  go_simp
  refine (rowsM hHeld.2.2.2.2.2.2.out.r).mono ?_
  rintro e w9 ⟨rfl, rfl⟩
  refine hK.out _ _ (hHeld) (fun hHeld => ?_)
  clear hK K 
  refine wpAnyH_take (i := 8) (v := ?_) rfl (by kernel_rfl) (by kernel_rfl) (by kernel_rfl) (fun _ _ _ h => h) (Or.inl ⟨by rfl, ?_⟩) (by assumption) ?_
  rotate_left
  · intro w hSw
    go_simp
    try with_reducible rfl
  simp only [Act.put, List.getElem_toArray, List.getElem_cons_zero, List.getElem_cons_succ, List.setIfInBounds_toArray, List.set_cons_zero, List.set_cons_succ]
  refine wpAnyH_ready (rs := [10]) (by kernel_rfl) (by simp) ?_
  refine AllReadyH.cons rfl (fun K hK => ?_) AllReadyH.nil
  go_simp
  refine (levelsM hHeld.2.2.2.2.2.2.out.l).mono ?_
  rintro e w9 ⟨rfl, rfl⟩
  refine hK.out _ _ (hHeld) (fun hHeld => ?_)
  clear hK K 
  refine wpAnyH_ready (rs := [12]) (by kernel_rfl) (by simp) ?_
  refine AllReadyH.cons rfl (fun K hK => ?_) AllReadyH.nil
  go_simp
  refine (levelsM hHeld.2.2.2.2.2.2.out.r).mono ?_
  rintro e w9 ⟨rfl, rfl⟩
  refine hK.out _ _ (hHeld) (fun hHeld => ?_)
  clear hK K 
  refine wpAnyH_take (i := 13) (v := ?_) rfl (by kernel_rfl) (by kernel_rfl) (by kernel_rfl) (fun _ _ _ h => h) (Or.inl ⟨by rfl, ?_⟩) (by assumption) ?_
  rotate_left
  · intro w hSw
    go_simp
    try with_reducible rfl
  simp only [Act.put, List.getElem_toArray, List.getElem_cons_zero, List.getElem_cons_succ, List.setIfInBounds_toArray, List.set_cons_zero, List.set_cons_succ]
  generalize hm : (if l.ht < r.ht then (r.ht : Int) else (l.ht : Int)) = mh
  have HM := aside hm
  clear hm
  refine wpAnyH_take (i := 14) (v := ?_) rfl (by kernel_rfl) (by kernel_rfl) (by kernel_rfl) (fun _ _ _ h => h) (Or.inl ⟨by rfl, ?_⟩) (by assumption) ?_
  rotate_left
  · intro w hSw
    go_simp
    try with_reducible rfl
  simp only [Act.put, List.getElem_toArray, List.getElem_cons_zero, List.getElem_cons_succ, List.setIfInBounds_toArray, List.set_cons_zero, List.set_cons_succ]
  refine wpAnyH_take (i := 16) (v := ?_) rfl (by kernel_rfl) (by kernel_rfl) (by kernel_rfl) (fun _ _ _ h => h) (Or.inl ⟨by rfl, ?_⟩) (by assumption) ?_
  rotate_left
  · intro w hSw
    go_simp
    try with_reducible rfl
  simp only [Act.put, List.getElem_toArray, List.getElem_cons_zero, List.getElem_cons_succ, List.setIfInBounds_toArray, List.set_cons_zero, List.set_cons_succ]
  refine wpAnyH_ready (rs := [17]) (by kernel_rfl) (by simp) ?_
  refine AllReadyH.cons rfl (fun K hK => ?_) AllReadyH.nil
  go_simp
  refine hK.out _ _ ((hHeld.2.2.2.2.2.2.out.alloc _).held) (fun hHeld => ?_)
  clear hK K 
  refine wpAnyH_take (i := 18) (v := ?_) rfl (by kernel_rfl) (by kernel_rfl) (by kernel_rfl) (fun _ _ _ h => h) (Or.inl ⟨by rfl, ?_⟩) (by assumption) ?_
  rotate_left
  · intro w hSw
    go_simp
    try with_reducible rfl
  simp only [Act.put, List.getElem_toArray, List.getElem_cons_zero, List.getElem_cons_succ, List.setIfInBounds_toArray, List.set_cons_zero, List.set_cons_succ]
  refine wpAnyH_done (by kernel_rfl) ?_ _
  go_wp2
  refine bodyPost_ret (v := .pointer (some ⟨Vr.heap.size, 0, none⟩)) (by simp [results, Try.results50, go_sem]) rfl ?_
  exact hangDoneM (n0 := n) HM.out H0lr.out (by simp [Tr.sum, hnl, hnr]) (by simp [Tr.hangC, hnl, hnr]) HW.out

end Go.Proofs.Ytnlmlhoddchgbaa
namespace Go.Proofs.Ytnlmlhoddchgbaa
open Go.RowKit
set_option linter.unusedVariables false

theorem hangM {jv : Value} {c : Option Nat} (HB : BothOkM jv c) {w : World} {tb n : Nat} {root : Option Addr} {l r : Tr Int Mp} {lp rp : Option Addr} (k : ByteArray) (v : Int) (s : Mp)
    (ht : TObjM w tb jv root) (hc : Cnt c n w) (hl : IsTM w lp l) (hr : IsTM w rp r) (hw : (Tr.node l k v s r).wt mSz ≤ 4611686018427387904) :
    Calls Try.prog 50 #[.pointer (some ⟨tb, 0, none⟩), .agg #[.string k, .int .i64 v, .int .u64 s.a, .int .u64 s.b], .pointer lp, .pointer rp] w fun e w' => ∃ p, e = .returned (.pointer p) ∧ IsTM w' p (Tr.node l k v s r) ∧ Cnt c (n + Tr.hangC l r) w' ∧ Keeps (OnC c) w w' := by
  rcases hl.two with ⟨rfl, e1⟩ | ⟨bl, rfl, e1⟩ <;> rcases hr.two with ⟨rfl, e2⟩ | ⟨br, rfl, e2⟩
  · exact hangM00 HB k v s ht hc hl hr hw (by rw [e1]; rfl) (by rw [e2]; rfl)
  · exact hangM01 HB k v s ht hc hl hr hw (by rw [e1]; rfl) e2
  · exact hangM10 HB k v s ht hc hl hr hw e1 (by rw [e2]; rfl)
  · exact hangM11 HB k v s ht hc hl hr hw e1 e2

end Go.Proofs.Ytnlmlhoddchgbaa

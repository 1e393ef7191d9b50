/-
  Trees in memory (E): nodes and what they hold, rows and levels.
  Add and Less of the code and of the document: lane by lane, modulo 2^64.
  Join of the code and of the document: counts added, wrapping round; sums added lane by lane.
  Meters: a new one, its Join, how often it did.
  both (E): it joins by the meter; what it defers does nothing where the join returns.
  hang (E): a node of a row and two trees.
-/
import Derived.Test.YtlbkcndmljlnmaaDoorBx6
import Derived.Test.YtlbkcndmljlnmaaDoorBx1
import Derived.Deep.RegionHeld
import Derived.OrdersHeld
import Derived.Defers
import Derived.Recover
import Derived.Deep.RegionWith
import Derived.Deep.RegionHeld3
namespace Go.Proofs.YtlbkcndmljlnmaaDoor
open Go.RowKit
set_option linter.unusedVariables false
/-- p points to the tree t. -/
def IsTE (w : World) : Option Addr → Tr En Tl → Prop
  | p, .nil => p = none
  | p, .node l k v s r => ∃ b lp rp, p = some ⟨b, 0, none⟩ ∧ w.heap[b]? = some (.cells #[.string k, .string v.k, .int .i64 v.c, .int .i64 v.n, .string v.v, .bool v.d, .int .i64 s.n, .int .u64 s.a, .int .u64 s.b, .pointer lp, .pointer rp, .int .i64 ((Tr.node l k v s r).cnt : Int), .int .i64 ((Tr.node l k v s r).ht : Int), .int .i64 ((Tr.node l k v s r).sum tJoin tZero).n, .int .u64 ((Tr.node l k v s r).sum tJoin tZero).a, .int .u64 ((Tr.node l k v s r).sum tJoin tZero).b] 145 (0, 0)) ∧ IsTE w lp l ∧ IsTE w rp r
theorem IsTE.stay {w w' : World} (h : Stay 145 w w') : ∀ (t : Tr En Tl) (p : Option Addr), IsTE w p t → IsTE w' p t
  | .nil, _, e => e
  | .node l k v s r, _, ⟨b, lp, rp, e, hb, hl, hr⟩ => ⟨b, lp, rp, e, h _ _ hb, IsTE.stay h l lp hl, IsTE.stay h r rp hr⟩
theorem IsTE.on {w w' : World} {p : Option Addr} {t : Tr En Tl} (i : IsTE w p t) (h : Stay 145 w w') : IsTE w' p t := IsTE.stay h t p i
theorem nodeE {w : World} {b : Nat} {k : ByteArray} {v : En} {s : Tl} {lp rp : Option Addr} {c h : Int} {q : Tl} (hb : w.heap[b]? = some (.cells #[.string k, .string v.k, .int .i64 v.c, .int .i64 v.n, .string v.v, .bool v.d, .int .i64 s.n, .int .u64 s.a, .int .u64 s.b, .pointer lp, .pointer rp, .int .i64 c, .int .i64 h, .int .i64 q.n, .int .u64 q.a, .int .u64 q.b] 145 (0, 0))) :
    w.cell? ⟨b, 0, none⟩ = some (.string k) ∧ w.cell? ⟨b, 1, none⟩ = some (.string v.k) ∧ w.cell? ⟨b, 2, none⟩ = some (.int .i64 v.c) ∧ w.cell? ⟨b, 3, none⟩ = some (.int .i64 v.n) ∧ w.cell? ⟨b, 4, none⟩ = some (.string v.v) ∧ w.cell? ⟨b, 5, none⟩ = some (.bool v.d) ∧ w.cell? ⟨b, 6, none⟩ = some (.int .i64 s.n) ∧ w.cell? ⟨b, 7, none⟩ = some (.int .u64 s.a) ∧ w.cell? ⟨b, 8, none⟩ = some (.int .u64 s.b) ∧ w.cell? ⟨b, 9, none⟩ = some (.pointer lp) ∧ w.cell? ⟨b, 10, none⟩ = some (.pointer rp) ∧ w.cell? ⟨b, 11, none⟩ = some (.int .i64 c) ∧ w.cell? ⟨b, 12, none⟩ = some (.int .i64 h) ∧ w.cell? ⟨b, 13, none⟩ = some (.int .i64 q.n) ∧ w.cell? ⟨b, 14, none⟩ = some (.int .u64 q.a) ∧ w.cell? ⟨b, 15, none⟩ = some (.int .u64 q.b) := by
  simp [World.cell?, hb]
theorem IsTE.two {w : World} {t : Tr En Tl} {p : Option Addr} (h : IsTE w p t) : (p = none ∧ t = .nil) ∨ ∃ b, p = some ⟨b, 0, none⟩ ∧ t.isNil = false := by
  cases t with
  | nil => exact .inl ⟨h, rfl⟩
  | node l k v s r => obtain ⟨b, lp, rp, rfl, _⟩ := h; exact .inr ⟨b, rfl, rfl⟩
theorem sumAtE {w : World} {b : Nat} {t : Tr En Tl} (h : IsTE w (some ⟨b, 0, none⟩) t) : w.cell? ⟨b, 13, none⟩ = some (.int .i64 (t.sum tJoin tZero).n) ∧ w.cell? ⟨b, 14, none⟩ = some (.int .u64 (t.sum tJoin tZero).a) ∧ w.cell? ⟨b, 15, none⟩ = some (.int .u64 (t.sum tJoin tZero).b) := by
  cases t with
  | nil => cases (show some _ = none from h)
  | node l k v s r =>
    obtain ⟨b', lp, rp, e, hb, _⟩ := h
    injection e with e
    injection e with e _ _
    subst e
    simp [World.cell?, hb]
/-- A tree's own block: it holds its join jv and its root. -/
def TObjE (w : World) (tb : Nat) (jv : Value) (root : Option Addr) : Prop := w.heap[tb]? = some (.cells #[.int .i64 0, .int .u64 0, .int .u64 0, jv, .pointer root] 148 (0, 0))
theorem TObjE.onC {w w' : World} {tb n : Nat} {jv : Value} {root : Option Addr} {c : Option Nat} (h : TObjE w tb jv root) (hc : CntE c n w) (k : Keeps (OnC c) w w') : TObjE w' tb jv root := blk_keep h k (hc.apart h (by decide))
theorem tobjE {w : World} {tb : Nat} {jv : Value} {root : Option Addr} (h : TObjE w tb jv root) :
    w.cell? ⟨tb, 0, none⟩ = some (.int .i64 0) ∧ w.cell? ⟨tb, 1, none⟩ = some (.int .u64 0) ∧ w.cell? ⟨tb, 2, none⟩ = some (.int .u64 0) ∧ w.cell? ⟨tb, 3, none⟩ = some (jv) ∧ w.cell? ⟨tb, 4, none⟩ = some (.pointer root) ∧ w.frozen? ⟨tb, 4, none⟩ = false := by
  unfold TObjE at h
  simp [World.cell?, World.frozen?, h]
set_option maxHeartbeats 1600000 in
theorem rowsE {w : World} {p : Option Addr} {t : Tr En Tl} (h : IsTE w p t) :
    Calls Tryd.prog 84 #[.pointer p] w fun e w' => e = .returned (.int .i64 (t.cnt : Int)) ∧ w' = w := by
  cases t with
  | nil =>
    obtain rfl : p = none := h
    go_enter Tryd.func84, Tryd.ntmps84
    go_wp2
    go_ret
    exact ⟨rfl, rfl⟩
  | node l k v s r =>
    obtain ⟨b, lp, rp, rfl, hb, _, _⟩ := h
    have hn := nodeE hb
    obtain ⟨-, -, -, -, -, -, -, -, -, -, -, h, -, -, -, -⟩ := hn
    clear hb
    generalize ((Tr.node l k v s r).cnt : Int) = c at *
    go_enter Tryd.func84, Tryd.ntmps84
    go_wp2
    go_ret
    exact ⟨rfl, rfl⟩
set_option maxHeartbeats 1600000 in
theorem levelsE {w : World} {p : Option Addr} {t : Tr En Tl} (h : IsTE w p t) :
    Calls Tryd.prog 100 #[.pointer p] w fun e w' => e = .returned (.int .i64 (t.ht : Int)) ∧ w' = w := by
  cases t with
  | nil =>
    obtain rfl : p = none := h
    go_enter Tryd.func100, Tryd.ntmps100
    go_wp2
    go_ret
    exact ⟨rfl, rfl⟩
  | node l k v s r =>
    obtain ⟨b, lp, rp, rfl, hb, _, _⟩ := h
    have hn := nodeE hb
    obtain ⟨-, -, -, -, -, -, -, -, -, -, -, -, h, -, -, -⟩ := hn
    clear hb
    generalize ((Tr.node l k v s r).ht : Int) = c at *
    go_enter Tryd.func100, Tryd.ntmps100
    go_wp2
    go_ret
    exact ⟨rfl, rfl⟩
end Go.Proofs.YtlbkcndmljlnmaaDoor
namespace Go.Proofs.YtlbkcndmljlnmaaDoor
open Go.RowKit
set_option linter.unusedVariables false
/-- The memory in Add's and Less's loop: the first sum, the second, the result. -/
def add3 (w : World) (x0 x1 b0 b1 r0 r1 : Int) : World :=
  ((w.alloc (.cells #[.int .u64 x0, .int .u64 x1] 95)).alloc (.cells #[.int .u64 b0, .int .u64 b1] 95)).alloc (.cells #[.int .u64 r0, .int .u64 r1] 95)
theorem add3_below (w : World) (x0 x1 b0 b1 r0 r1 : Int) : Below w.heap.size w (add3 w x0 x1 b0 b1 r0 r1) := ((bnew w _).alloc (by simp) _).alloc (by simp; omega) _
def AddRel (w : World) (a0 a1 b0 b1 s0 s1 : Int) (i : Value) (wr : World) : Prop :=
  (i = .int .i64 0 ∧ wr = add3 w a0 a1 b0 b1 0 0) ∨ (i = .int .i64 1 ∧ wr = (add3 w s0 a1 b0 b1 0 0).drew) ∨ (i = .int .i64 2 ∧ wr = (add3 w s0 s1 b0 b1 0 0).drew.drew)
set_option maxHeartbeats 1600000 in
set_option maxRecDepth 100000 in
theorem add_any (a0 a1 b0 b1 : Int) (w : World) :
    Calls Tryd.prog 102 #[.agg #[.int .u64 a0, .int .u64 a1], .agg #[.int .u64 b0, .int .u64 b1]] w fun e w' => e = .returned (.agg #[.int .u64 (IntKind.u64.wrap (a0 + b0)), .int .u64 (IntKind.u64.wrap (a1 + b1))]) ∧ Below w.heap.size w w' := by
  go_enter Tryd.func102, Tryd.ntmps102
  go_wp2
  go_loopw [6] (fun i wr => AddRel w a0 a1 b0 b1 (IntKind.u64.wrap (a0 + b0)) (IntKind.u64.wrap (a1 + b1)) i wr) (fun i _ => 2 - (intOf i).toNat)
  case atStart => exact .inl ⟨rfl, rfl⟩
  case round =>
    obtain ⟨rfl, rfl⟩ | ⟨rfl, rfl⟩ | ⟨rfl, rfl⟩ := hrel
    · unfold add3
      go_wp2
      go_region
      go_wp2
      go_roundw
      case rel => exact .inr (.inl ⟨rfl, rfl⟩)
      case measure => simp [intOf]
    · unfold add3
      go_wp2
      go_region
      go_wp2
      go_roundw
      case rel => exact .inr (.inr ⟨rfl, rfl⟩)
      case measure => simp [intOf]
    · unfold add3
      go_wp2
      exact bodyPost_ret (v := .agg #[.int .u64 (IntKind.u64.wrap (a0 + b0)), .int .u64 (IntKind.u64.wrap (a1 + b1))]) (by simp [results, Tryd.results102, go_sem]) rfl ⟨rfl, (add3_below w (IntKind.u64.wrap (a0 + b0)) (IntKind.u64.wrap (a1 + b1)) b0 b1 (IntKind.u64.wrap (a0 + b0)) (IntKind.u64.wrap (a1 + b1))).drew.drew⟩
end Go.Proofs.YtlbkcndmljlnmaaDoor
namespace Go.Proofs.YtlbkcndmljlnmaaDoor
open Go.RowKit
set_option linter.unusedVariables false
/-- Two tallies and the result's place, in memory. -/
structure J3 (w V : World) (n a b m c d : Int) : Prop where
  below : Below w.heap.size w V
  b0 : V.heap[w.heap.size]? = some (.cells #[.int .i64 n, .int .u64 a, .int .u64 b] 97)
  b1 : V.heap[w.heap.size + 1]? = some (.cells #[.int .i64 m, .int .u64 c, .int .u64 d] 97)
  b2 : V.heap[w.heap.size + 1 + 1]? = some (.cells #[.int .i64 0, .int .u64 0, .int .u64 0] 97)
theorem j3_st (w : World) (n a b m c d : Int) : J3 w (((w.alloc (.cells #[.int .i64 n, .int .u64 a, .int .u64 b] 97)).alloc (.cells #[.int .i64 m, .int .u64 c, .int .u64 d] 97)).alloc (.cells #[.int .i64 0, .int .u64 0, .int .u64 0] 97)) n a b m c d := by
  refine ⟨((bnew w _).alloc (by simp) _).alloc (by simp; omega) _, blk_on (blk_on (heap_alloc_new w _) (bnew _ _)) (bnew _ _), ?_, ?_⟩
  · refine blk_on ?_ (bnew _ _)
    rw [show w.heap.size + 1 = (w.alloc (.cells #[.int .i64 n, .int .u64 a, .int .u64 b] 97)).heap.size from by simp]
    exact heap_alloc_new _ _
  · rw [show w.heap.size + 1 + 1 = ((w.alloc (.cells #[.int .i64 n, .int .u64 a, .int .u64 b] 97)).alloc (.cells #[.int .i64 m, .int .u64 c, .int .u64 d] 97)).heap.size from by simp]
    exact heap_alloc_new _ _
theorem J3.drew {w V : World} {n a b m c d : Int} (h : J3 w V n a b m c d) : J3 w V.drew n a b m c d := ⟨h.below.drew, h.b0, h.b1, h.b2⟩
theorem J3.keep {w V W : World} {n a b m c d : Int} (h : J3 w V n a b m c d) (b' : Below V.heap.size V W) : J3 w W n a b m c d := ⟨bthen h.below b', blk_on h.b0 b', blk_on h.b1 b', blk_on h.b2 b'⟩
theorem J3.held {w X : World} {n a b m c d : Int} (h : J3 w X n a b m c d) : Below w.heap.size w X ∧ X.cell? ⟨w.heap.size, 0, none⟩ = some (.int .i64 n) ∧ X.cell? ⟨w.heap.size, 1, none⟩ = some (.int .u64 a) ∧ X.cell? ⟨w.heap.size, 2, none⟩ = some (.int .u64 b) ∧ X.cell? ⟨w.heap.size + 1, 0, none⟩ = some (.int .i64 m) ∧ X.cell? ⟨w.heap.size + 1, 1, none⟩ = some (.int .u64 c) ∧ X.cell? ⟨w.heap.size + 1, 2, none⟩ = some (.int .u64 d) :=
  ⟨h.below, (tri h.b0).1, (tri h.b0).2.1, (tri h.b0).2.2.1, (tri h.b1).1, (tri h.b1).2.1, (tri h.b1).2.2.1⟩
theorem j3_set {w X : World} {n a b m c d : Int} (h : Below w.heap.size w X ∧ X.cell? ⟨w.heap.size, 0, none⟩ = some (.int .i64 n) ∧ X.cell? ⟨w.heap.size, 1, none⟩ = some (.int .u64 a) ∧ X.cell? ⟨w.heap.size, 2, none⟩ = some (.int .u64 b) ∧ X.cell? ⟨w.heap.size + 1, 0, none⟩ = some (.int .i64 m) ∧ X.cell? ⟨w.heap.size + 1, 1, none⟩ = some (.int .u64 c) ∧ X.cell? ⟨w.heap.size + 1, 2, none⟩ = some (.int .u64 d)) (k : Nat) (u : Value) : Below w.heap.size w (X.setCell ⟨w.heap.size + 1 + 1, k, none⟩ u) ∧ (X.setCell ⟨w.heap.size + 1 + 1, k, none⟩ u).cell? ⟨w.heap.size, 0, none⟩ = some (.int .i64 n) ∧ (X.setCell ⟨w.heap.size + 1 + 1, k, none⟩ u).cell? ⟨w.heap.size, 1, none⟩ = some (.int .u64 a) ∧ (X.setCell ⟨w.heap.size + 1 + 1, k, none⟩ u).cell? ⟨w.heap.size, 2, none⟩ = some (.int .u64 b) ∧ (X.setCell ⟨w.heap.size + 1 + 1, k, none⟩ u).cell? ⟨w.heap.size + 1, 0, none⟩ = some (.int .i64 m) ∧ (X.setCell ⟨w.heap.size + 1 + 1, k, none⟩ u).cell? ⟨w.heap.size + 1, 1, none⟩ = some (.int .u64 c) ∧ (X.setCell ⟨w.heap.size + 1 + 1, k, none⟩ u).cell? ⟨w.heap.size + 1, 2, none⟩ = some (.int .u64 d) := by
  obtain ⟨h, h0, h1, h2, h3, h4, h5⟩ := h
  exact ⟨h.setCell (by simp; omega) _, cell_apart h0 (by dsimp only; omega), cell_apart h1 (by dsimp only; omega), cell_apart h2 (by dsimp only; omega), cell_apart h3 (by dsimp only; omega), cell_apart h4 (by dsimp only; omega), cell_apart h5 (by dsimp only; omega)⟩
set_option maxHeartbeats 1600000 in
set_option maxRecDepth 100000 in
theorem join_any (n a b m c d : Int) (w : World) :
    Calls Tryd.prog 85 #[.agg #[.int .i64 n, .int .u64 a, .int .u64 b], .agg #[.int .i64 m, .int .u64 c, .int .u64 d]] w fun e w' => e = .returned (.agg #[.int .i64 (IntKind.i64.wrap (n + m)), .int .u64 (IntKind.u64.wrap (a + c)), .int .u64 (IntKind.u64.wrap (b + d))]) ∧ Below w.heap.size w w' := by
  have J := aside (j3_st w n a b m c d)
  go_enter Tryd.func85, Tryd.ntmps85
  go_wp2_with fail
  generalize ((w.alloc (.cells #[.int .i64 n, .int .u64 a, .int .u64 b] 97)).alloc (.cells #[.int .i64 m, .int .u64 c, .int .u64 d] 97)).alloc (.cells #[.int .i64 0, .int .u64 0, .int .u64 0] 97) = V at *
  refine wp_region_held_drew (S := fun X => Below w.heap.size w X ∧ X.cell? ⟨w.heap.size, 0, none⟩ = some (.int .i64 n) ∧ X.cell? ⟨w.heap.size, 1, none⟩ = some (.int .u64 a) ∧ X.cell? ⟨w.heap.size, 2, none⟩ = some (.int .u64 b) ∧ X.cell? ⟨w.heap.size + 1, 0, none⟩ = some (.int .i64 m) ∧ X.cell? ⟨w.heap.size + 1, 1, none⟩ = some (.int .u64 c) ∧ X.cell? ⟨w.heap.size + 1, 2, none⟩ = some (.int .u64 d)) (by kernel_rfl) J.out.drew.held (fun hHeld => ?_)
  refine wpAnyH_take (i := 0) (v := ?_) rfl (by kernel_rfl) (by kernel_rfl) (by kernel_rfl) (fun _ _ _ h => h) (Or.inl ⟨by rfl, ?_⟩) (by assumption) ?_
  rotate_left
  · intro w hSw
    go_simp
    try with_reducible rfl
  simp only [Act.put, List.getElem_toArray, List.getElem_cons_zero, List.setIfInBounds_toArray, List.set_cons_zero, List.set_cons_succ]
  refine wpAnyH_take (i := 1) (v := ?_) rfl (by kernel_rfl) (by kernel_rfl) (by kernel_rfl) (fun _ _ _ h => h) (Or.inl ⟨by rfl, ?_⟩) (by assumption) ?_
  rotate_left
  · intro w hSw
    go_simp
    try with_reducible rfl
  simp only [Act.put, List.getElem_toArray, List.getElem_cons_zero, List.getElem_cons_succ, List.setIfInBounds_toArray, List.set_cons_zero, List.set_cons_succ]
  refine wpAnyH_take (i := 2) (v := ?_) rfl (by kernel_rfl) (by kernel_rfl) (by kernel_rfl) (fun _ _ _ h => h) (Or.inl ⟨by rfl, ?_⟩) (by assumption) ?_
  rotate_left
  · intro w hSw
    go_simp
    try with_reducible rfl
  simp only [Act.put, List.getElem_toArray, List.getElem_cons_zero, List.getElem_cons_succ, List.setIfInBounds_toArray, List.set_cons_zero, List.set_cons_succ]
  refine wpAnyH_take (i := 3) (v := ?_) rfl (by kernel_rfl) (by kernel_rfl) (by kernel_rfl) (fun _ _ _ h => h) (Or.inl ⟨by rfl, ?_⟩) (by assumption) ?_
  rotate_left
  · intro w hSw
    go_simp
    try with_reducible rfl
  simp only [Act.put, List.getElem_toArray, List.getElem_cons_zero, List.getElem_cons_succ, List.setIfInBounds_toArray, List.set_cons_zero, List.set_cons_succ]
  refine wpAnyH_take (i := 4) (v := ?_) rfl (by kernel_rfl) (by kernel_rfl) (by kernel_rfl) (fun _ _ _ h => h) (Or.inl ⟨by rfl, ?_⟩) (by assumption) ?_
  rotate_left
  · intro w hSw
    go_simp
    try with_reducible rfl
  simp only [Act.put, List.getElem_toArray, List.getElem_cons_zero, List.getElem_cons_succ, List.setIfInBounds_toArray, List.set_cons_zero, List.set_cons_succ]
  refine wpAnyH_take (i := 5) (v := ?_) rfl (by kernel_rfl) (by kernel_rfl) (by kernel_rfl) (fun _ _ _ h => h) (Or.inl ⟨by rfl, ?_⟩) (by assumption) ?_
  rotate_left
  · intro w hSw
    go_simp
    try with_reducible rfl
  simp only [Act.put, List.getElem_toArray, List.getElem_cons_zero, List.getElem_cons_succ, List.setIfInBounds_toArray, List.set_cons_zero, List.set_cons_succ]
  refine wpAnyH_take (i := 6) (v := ?_) rfl (by kernel_rfl) (by kernel_rfl) (by kernel_rfl) (fun _ _ _ h => h) (Or.inl ⟨by rfl, ?_⟩) (by assumption) ?_
  rotate_left
  · intro w hSw
    go_simp
    try with_reducible rfl
  simp only [Act.put, List.getElem_toArray, List.getElem_cons_zero, List.getElem_cons_succ, List.setIfInBounds_toArray, List.set_cons_zero, List.set_cons_succ]
  refine wpAnyH_take (i := 7) (v := ?_) rfl (by kernel_rfl) (by kernel_rfl) (by kernel_rfl) (fun _ _ _ h => h) (Or.inl ⟨by rfl, ?_⟩) (by assumption) ?_
  rotate_left
  · intro w hSw
    go_simp
    try with_reducible rfl
  simp only [Act.put, List.getElem_toArray, List.getElem_cons_zero, List.getElem_cons_succ, List.setIfInBounds_toArray, List.set_cons_zero, List.set_cons_succ]
  refine wpAnyH_take (i := 8) (v := ?_) rfl (by kernel_rfl) (by kernel_rfl) (by kernel_rfl) (fun _ _ _ h => h) (Or.inl ⟨by rfl, ?_⟩) (by assumption) ?_
  rotate_left
  · intro w hSw
    go_simp
    try with_reducible rfl
  simp only [Act.put, List.getElem_toArray, List.getElem_cons_zero, List.getElem_cons_succ, List.setIfInBounds_toArray, List.set_cons_zero, List.set_cons_succ]
  refine wpAnyH_ready (rs := [9]) (by kernel_rfl) (by simp) ?_
  refine AllReadyH.cons rfl (fun K hK => ?_) AllReadyH.nil
  go_simp
  refine (add_any _ _ _ _ _).mono ?_
  rintro e w9 ⟨rfl, bb⟩
  refine hK.out _ _ ((J.out.drew.keep bb).held) (fun hHeld => ?_)
  clear hK K 
  have J1 := aside (J.out.drew.keep bb)
  obtain ⟨s0, s1, s2, z0, z1, z2⟩ := tri J1.out.b2
  clear bb
  refine wpAnyH_take (i := 10) (v := ?_) rfl (by kernel_rfl) (by kernel_rfl) (by kernel_rfl) (fun _ _ _ h => h) (Or.inl ⟨by rfl, ?_⟩) (by assumption) ?_
  rotate_left
  · intro w hSw
    go_simp
    try with_reducible rfl
  simp only [Act.put, List.getElem_toArray, List.getElem_cons_zero, List.getElem_cons_succ, List.setIfInBounds_toArray, List.set_cons_zero, List.set_cons_succ]
  refine wpAnyH_ready (rs := [11]) (by kernel_rfl) (by simp) ?_
  refine AllReadyH.cons rfl (fun K hK => ?_) AllReadyH.nil
  go_simp
  refine hK.out _ _ (j3_set (j3_set (j3_set J1.out.held 0 _) 1 _) 2 _) (fun hHeld => ?_)
  clear hK K 
  refine wpAnyH_done (by kernel_rfl) ?_ _
  go_wp2
  exact bodyPost_ret (v := .agg #[.int .i64 (IntKind.i64.wrap (n + m)), .int .u64 (IntKind.u64.wrap (a + c)), .int .u64 (IntKind.u64.wrap (b + d))]) (by simp [results, Tryd.results85, go_sem, s0, s1, s2]) rfl ⟨rfl, ((J1.out.below.setCell (by simp; omega) _).setCell (by simp; omega) _).setCell (by simp; omega) _⟩
theorem join_at {n a b m c d r x y : Int} (h : IntKind.i64.wrap (n + m) = r) (h0 : IntKind.u64.wrap (a + c) = x) (h1 : IntKind.u64.wrap (b + d) = y) (w : World) :
    Calls Tryd.prog 85 #[.agg #[.int .i64 n, .int .u64 a, .int .u64 b], .agg #[.int .i64 m, .int .u64 c, .int .u64 d]] w fun e w' => e = .returned (.agg #[.int .i64 r, .int .u64 x, .int .u64 y]) ∧ Below w.heap.size w w' := by
  subst h h0 h1; exact join_any n a b m c d w
end Go.Proofs.YtlbkcndmljlnmaaDoor
namespace Go.Proofs.YtlbkcndmljlnmaaDoor
open Go.RowKit
set_option linter.unusedVariables false
set_option maxHeartbeats 1600000 in
theorem newMeter_any (w : World) :
    Calls Tryd.prog 56 #[] w fun e w' => e = .returned (.pointer (some ⟨w.heap.size, 0, none⟩)) ∧ w' = w.alloc (.cells #[.int .i64 0] 150) := by
  go_enter Tryd.func56, Tryd.ntmps56
  go_wp2
  go_ret
  exact ⟨rfl, rfl⟩
set_option maxHeartbeats 1600000 in
set_option maxRecDepth 100000 in
theorem mjoin_at {w : World} {g : Nat} {j r n a b m c d s x y : Int} (hr : IntKind.i64.wrap (j + 1) = r) (hs : IntKind.i64.wrap (n + m) = s) (hx : IntKind.u64.wrap (a + c) = x) (hy : IntKind.u64.wrap (b + d) = y) (h : w.heap[g]? = some (.cells #[.int .i64 j] 150 (0, 0))) :
    Calls Tryd.prog 58 #[.pointer (some ⟨g, 0, none⟩), .agg #[.int .i64 n, .int .u64 a, .int .u64 b], .agg #[.int .i64 m, .int .u64 c, .int .u64 d]] w fun e w' => e = .returned (.agg #[.int .i64 s, .int .u64 x, .int .u64 y]) ∧ w'.heap[g]? = some (.cells #[.int .i64 r] 150 (0, 0)) ∧ Keeps (fun k => k = g) w w' := by
  have J := aside (j3_st w n a b m c d)
  have hlt := (Array.getElem?_eq_some_iff.1 h).1
  have H := aside (blk_on h (j3_st w n a b m c d).below)
  have c0 := cell_one H.out
  have z0 := frozen_one H.out
  have CJ := aside (fun W => join_at hs hx hy W)
  clear h hs hx hy
  go_enter Tryd.func58, Tryd.ntmps58
  go_wp2_with fail
  have G := aside (heap_setCell_same _ g 0 _ _ (.int .i64 r) H.out)
  have G2 := aside ((heap_setCell_other _ ⟨g, 0, none⟩ (w.heap.size + 1 + 1) (.int .i64 r) (by dsimp only; omega)).trans J.out.b2)
  have KK := aside (Keeps.setCell (S := fun k => k = g) (Keeps.of_below J.out.below _) (p := ⟨g, 0, none⟩) (fun _ => rfl) (.int .i64 r))
  generalize World.setCell (((w.alloc (.cells #[.int .i64 n, .int .u64 a, .int .u64 b] 97)).alloc (.cells #[.int .i64 m, .int .u64 c, .int .u64 d] 97)).alloc (.cells #[.int .i64 0, .int .u64 0, .int .u64 0] 97)) ⟨g, 0, none⟩ (.int .i64 r) = V at *
  clear J H c0 z0
  refine (CJ.out _).mono ?_
  rintro e w1 ⟨rfl, b1⟩
  have G' := aside (blk_on G.out b1)
  have G2' := aside (blk_on G2.out b1)
  have K1 := aside (KK.out.trans (Keeps.of_below b1 _))
  clear b1 G G2 KK
  obtain ⟨s0, s1, s2, z0, z1, z2⟩ := tri G2'.out
  go_wp2
  refine bodyPost_ret (v := .agg #[.int .i64 s, .int .u64 x, .int .u64 y]) (by simp [results, Tryd.results58, go_sem, s0, s1, s2]) rfl ⟨rfl, ?_, ?_⟩
  · rw [heap_setCell_other _ _ _ _ (by dsimp only; omega), heap_setCell_other _ _ _ _ (by dsimp only; omega), heap_setCell_other _ _ _ _ (by dsimp only; omega)]
    exact G'.out
  · exact ((K1.out.setCell (by intro h; simp at h; omega) _).setCell (by intro h; simp at h; omega) _).setCell (by intro h; simp at h; omega) _
end Go.Proofs.YtlbkcndmljlnmaaDoor
namespace Go.Proofs.YtlbkcndmljlnmaaDoor
open Go.RowKit
set_option linter.unusedVariables false
/-- both joins, and counts where the join counts. -/
def BothOkE (jv : Value) (c : Option Nat) : Prop :=
  ∀ (W : World) (tb n : Nat) (root : Option Addr) (a b : Tl), TObjE W tb jv root → CntE c n W → tSz a + tSz b ≤ 4611686018427387904 →
    Calls Tryd.prog 103 #[.pointer (some ⟨tb, 0, none⟩), .agg #[.int .i64 a.n, .int .u64 a.a, .int .u64 a.b], .agg #[.int .i64 b.n, .int .u64 b.a, .int .u64 b.b]] W fun e w' => e = .returned (.agg #[.int .i64 (tJoin a b).n, .int .u64 (tJoin a b).a, .int .u64 (tJoin a b).b]) ∧ CntE c (n + 1) w' ∧ Keeps (OnC c) W w'
theorem catch_idleE (p q : Addr) (w : World) :
    CallsD Tryd.prog 113 #[.pointer (some p), .pointer (some q)] .returning w fun e u' w' => e = .returned (.tuple #[]) ∧ u' = .returning ∧ w' = w := by
  refine callsD_of_wpS Tryd.func113 rfl fun c₀ cs hu => ?_
  apply wpS_seq
  apply wpS_region
  simp [wpOpsS, go_sem, recoverD, hu, Tryd.ntmps113, Exit.thenS]
  refine wpS_cond (t := false) (by simp [Act.eval, Array.replicate]) ?_
  simp only [Bool.false_eq_true, if_false]
  refine wpS_of_wp (wp_skip ?_)
  cases c₀
  simp_all [bodyPostS, results, Tryd.results113]
/-- What both has laid. -/
structure BStE (W V : World) (tb n : Nat) (jv : Value) (root : Option Addr) (c : Option Nat) (a b : Tl) : Prop where
  keeps : Keeps (OnC c) W V
  cnt : CntE c n V
  tobj : TObjE V tb jv root
  b0 : V.heap[W.heap.size]? = some (.cells #[.pointer (some ⟨tb, 0, none⟩)] 103 (0, 0))
  b1 : V.heap[W.heap.size + 1]? = some (.cells #[.int .i64 a.n, .int .u64 a.a, .int .u64 a.b] 97 (0, 0))
  b2 : V.heap[W.heap.size + 1 + 1]? = some (.cells #[.int .i64 b.n, .int .u64 b.a, .int .u64 b.b] 97 (0, 0))
  b3 : V.heap[W.heap.size + 1 + 1 + 1]? = some (.cells #[.int .i64 0, .int .u64 0, .int .u64 0] 97 (0, 0))
theorem BStE.drew {W V : World} {tb n : Nat} {jv : Value} {root : Option Addr} {c : Option Nat} {a b : Tl} (h : BStE W V tb n jv root c a b) : BStE W V.drew tb n jv root c a b := ⟨h.keeps.drew, h.cnt.drew, h.tobj, h.b0, h.b1, h.b2, h.b3⟩
theorem BStE.on {W V V' : World} {tb n m : Nat} {jv : Value} {root : Option Addr} {c : Option Nat} {a b : Tl} (h : BStE W V tb n jv root c a b) (hc : CntE c n W) (k : Keeps (OnC c) V V') (hm : CntE c m V') : BStE W V' tb m jv root c a b :=
  ⟨h.keeps.trans k, hm, h.tobj.onC h.cnt k, blk_keep h.b0 k (hc.lt (by omega)), blk_keep h.b1 k (hc.lt (by omega)), blk_keep h.b2 k (hc.lt (by omega)), blk_keep h.b3 k (hc.lt (by omega))⟩
theorem bstE {W : World} {tb n : Nat} {jv : Value} {root : Option Addr} {c : Option Nat} (a b : Tl) (hc : CntE c n W) (ht : TObjE W tb jv root) : BStE W ((((W.alloc (.cells #[.pointer (some ⟨tb, 0, none⟩)] 103)).alloc (.cells #[.int .i64 a.n, .int .u64 a.a, .int .u64 a.b] 97)).alloc (.cells #[.int .i64 b.n, .int .u64 b.a, .int .u64 b.b] 97)).alloc (.cells #[.int .i64 0, .int .u64 0, .int .u64 0] 97)) tb n jv root c a b := by
  refine ⟨?_, ?_, ?_, ?_, ?_, ?_, ?_⟩
  · exact ((((Keeps.refl _ W).alloc _).alloc _).alloc _).alloc _
  · exact (((hc.alloc _).alloc _).alloc _).alloc _
  · unfold TObjE at ht ⊢; exact blk_on (blk_on (blk_on (blk_on ht (bnew _ _)) (bnew _ _)) (bnew _ _)) (bnew _ _)
  · have h0 := heap_alloc_new W (.cells #[.pointer (some ⟨tb, 0, none⟩)] 103)
    try simp only [World.size_alloc] at h0
    exact blk_on (blk_on (blk_on (h0) (bnew _ _)) (bnew _ _)) (bnew _ _)
  · have h0 := heap_alloc_new (W.alloc (.cells #[.pointer (some ⟨tb, 0, none⟩)] 103)) (.cells #[.int .i64 a.n, .int .u64 a.a, .int .u64 a.b] 97)
    try simp only [World.size_alloc] at h0
    exact blk_on (blk_on (h0) (bnew _ _)) (bnew _ _)
  · have h0 := heap_alloc_new ((W.alloc (.cells #[.pointer (some ⟨tb, 0, none⟩)] 103)).alloc (.cells #[.int .i64 a.n, .int .u64 a.a, .int .u64 a.b] 97)) (.cells #[.int .i64 b.n, .int .u64 b.a, .int .u64 b.b] 97)
    try simp only [World.size_alloc] at h0
    exact blk_on (h0) (bnew _ _)
  · have h0 := heap_alloc_new (((W.alloc (.cells #[.pointer (some ⟨tb, 0, none⟩)] 103)).alloc (.cells #[.int .i64 a.n, .int .u64 a.a, .int .u64 a.b] 97)).alloc (.cells #[.int .i64 b.n, .int .u64 b.a, .int .u64 b.b] 97)) (.cells #[.int .i64 0, .int .u64 0, .int .u64 0] 97)
    try simp only [World.size_alloc] at h0
    exact h0
theorem BStE.held {W X : World} {tb n : Nat} {jv : Value} {root : Option Addr} {c : Option Nat} {a b : Tl} (h : BStE W X tb n jv root c a b) : X.cell? ⟨W.heap.size, 0, none⟩ = some (.pointer (some ⟨tb, 0, none⟩)) ∧ X.cell? ⟨W.heap.size + 1, 0, none⟩ = some (.int .i64 a.n) ∧ X.cell? ⟨W.heap.size + 1, 1, none⟩ = some (.int .u64 a.a) ∧ X.cell? ⟨W.heap.size + 1, 2, none⟩ = some (.int .u64 a.b) ∧ X.cell? ⟨W.heap.size + 1 + 1, 0, none⟩ = some (.int .i64 b.n) ∧ X.cell? ⟨W.heap.size + 1 + 1, 1, none⟩ = some (.int .u64 b.a) ∧ X.cell? ⟨W.heap.size + 1 + 1, 2, none⟩ = some (.int .u64 b.b) ∧ X.cell? ⟨tb, 3, none⟩ = some (jv) := ⟨(cell_one h.b0), (tri h.b1).1, (tri h.b1).2.1, (tri h.b1).2.2.1, (tri h.b2).1, (tri h.b2).2.1, (tri h.b2).2.2.1, (tobjE h.tobj).2.2.2.1⟩
theorem bst_set {W X : World} {tb n : Nat} {jv : Value} {root : Option Addr} {c : Option Nat} {a b : Tl} (h : X.cell? ⟨W.heap.size, 0, none⟩ = some (.pointer (some ⟨tb, 0, none⟩)) ∧ X.cell? ⟨W.heap.size + 1, 0, none⟩ = some (.int .i64 a.n) ∧ X.cell? ⟨W.heap.size + 1, 1, none⟩ = some (.int .u64 a.a) ∧ X.cell? ⟨W.heap.size + 1, 2, none⟩ = some (.int .u64 a.b) ∧ X.cell? ⟨W.heap.size + 1 + 1, 0, none⟩ = some (.int .i64 b.n) ∧ X.cell? ⟨W.heap.size + 1 + 1, 1, none⟩ = some (.int .u64 b.a) ∧ X.cell? ⟨W.heap.size + 1 + 1, 2, none⟩ = some (.int .u64 b.b) ∧ X.cell? ⟨tb, 3, none⟩ = some (jv)) (B : BStE W X tb n jv root c a b) (y : Tl) : (set3 X (W.heap.size + 1 + 1 + 1) y).cell? ⟨W.heap.size, 0, none⟩ = some (.pointer (some ⟨tb, 0, none⟩)) ∧ (set3 X (W.heap.size + 1 + 1 + 1) y).cell? ⟨W.heap.size + 1, 0, none⟩ = some (.int .i64 a.n) ∧ (set3 X (W.heap.size + 1 + 1 + 1) y).cell? ⟨W.heap.size + 1, 1, none⟩ = some (.int .u64 a.a) ∧ (set3 X (W.heap.size + 1 + 1 + 1) y).cell? ⟨W.heap.size + 1, 2, none⟩ = some (.int .u64 a.b) ∧ (set3 X (W.heap.size + 1 + 1 + 1) y).cell? ⟨W.heap.size + 1 + 1, 0, none⟩ = some (.int .i64 b.n) ∧ (set3 X (W.heap.size + 1 + 1 + 1) y).cell? ⟨W.heap.size + 1 + 1, 1, none⟩ = some (.int .u64 b.a) ∧ (set3 X (W.heap.size + 1 + 1 + 1) y).cell? ⟨W.heap.size + 1 + 1, 2, none⟩ = some (.int .u64 b.b) ∧ (set3 X (W.heap.size + 1 + 1 + 1) y).cell? ⟨tb, 3, none⟩ = some (jv) := by
  obtain ⟨h0, h1, h2, h3, h4, h5, h6, h7⟩ := h
  refine ⟨set3_cell y h0 (by dsimp only; omega), set3_cell y h1 (by dsimp only; omega), set3_cell y h2 (by dsimp only; omega), set3_cell y h3 (by dsimp only; omega), set3_cell y h4 (by dsimp only; omega), set3_cell y h5 (by dsimp only; omega), set3_cell y h6 (by dsimp only; omega), set3_cell y h7 ?_⟩
  intro e
  have h8 := B.tobj
  have h9 := B.b3
  unfold TObjE at h8
  dsimp only at e
  rw [e, h9] at h8
  simp at h8
theorem bst_end {W X : World} {tb n m : Nat} {jv : Value} {root : Option Addr} {c : Option Nat} {a b : Tl} (hc : CntE c m W) (B : BStE W X tb n jv root c a b) (y : Tl) :
    CntE c n (set3 X (W.heap.size + 1 + 1 + 1) y) ∧ Keeps (OnC c) W (set3 X (W.heap.size + 1 + 1 + 1) y) :=
  ⟨B.cnt.set3 (hc.lt (by omega)) y, B.keeps.set3 (fun e => by omega) y⟩
theorem meterE (f h : Tl) (g n : Nat) (w : World) (hc : CntE (some g) n w) :
    Calls Tryd.prog 58 #[.pointer (some ⟨g, 0, none⟩), .agg #[.int .i64 f.n, .int .u64 f.a, .int .u64 f.b], .agg #[.int .i64 h.n, .int .u64 h.a, .int .u64 h.b]] w fun e w' => e = .returned (.agg #[.int .i64 (tJoin f h).n, .int .u64 (tJoin f h).a, .int .u64 (tJoin f h).b]) ∧ CntE (some g) (n + 1) w' ∧ Keeps (OnC (some g)) w w' := by
  refine (mjoin_at (r := IntKind.i64.wrap ((n + 1 : Nat) : Int)) (by simp only [IntKind.wrap_i64]; omega) (tJoin_n f h) (tJoin_a f h) (tJoin_b f h) (hc g rfl)).mono fun e w' h => ⟨h.1, fun b e => ?_, h.2.2.mono (fun k _ e => by subst e; rfl)⟩
  cases e
  exact h.2.1
set_option maxHeartbeats 1600000 in
set_option maxRecDepth 100000 in
theorem bothE (g : Nat) : BothOkE (.func (.func 58) #[.pointer (some ⟨g, 0, none⟩)] #[]) (some g) := by
  intro W tb n root a b hT hC hS
  have hmf : ∀ (fn : Fn) (first cap : Array Value) (w : World), (Instr.makeFunc fn first cap).run Tryd.prog w = .ok (.func fn first cap) w := fun _ _ _ _ => rfl
  have CJ := aside (fun (w : World) (h : CntE (some g) n w) => meterE a b g n w h)
  have B := aside (bstE a b hC hT)
  have HC := aside hC
  clear hT hC hS
  go_enter_defers Tryd.func103, Tryd.ntmps103
  go_wp2_with fail
  generalize (((W.alloc (.cells #[.pointer (some ⟨tb, 0, none⟩)] 103)).alloc (.cells #[.int .i64 a.n, .int .u64 a.a, .int .u64 a.b] 97)).alloc (.cells #[.int .i64 b.n, .int .u64 b.a, .int .u64 b.b] 97)).alloc (.cells #[.int .i64 0, .int .u64 0, .int .u64 0] 97) = V at *
  refine wp_region_noPanic ?_
  refine wp_region_held_drew (S := fun X => X.cell? ⟨W.heap.size, 0, none⟩ = some (.pointer (some ⟨tb, 0, none⟩)) ∧ X.cell? ⟨W.heap.size + 1, 0, none⟩ = some (.int .i64 a.n) ∧ X.cell? ⟨W.heap.size + 1, 1, none⟩ = some (.int .u64 a.a) ∧ X.cell? ⟨W.heap.size + 1, 2, none⟩ = some (.int .u64 a.b) ∧ X.cell? ⟨W.heap.size + 1 + 1, 0, none⟩ = some (.int .i64 b.n) ∧ X.cell? ⟨W.heap.size + 1 + 1, 1, none⟩ = some (.int .u64 b.a) ∧ X.cell? ⟨W.heap.size + 1 + 1, 2, none⟩ = some (.int .u64 b.b) ∧ X.cell? ⟨tb, 3, none⟩ = some (.func (.func 58) #[.pointer (some ⟨g, 0, none⟩)] #[])) (by kernel_rfl) B.out.drew.held (fun hHeld => ?_)
  refine wpAnyH_take (i := 0) (v := ?_) rfl (by kernel_rfl) (by kernel_rfl) (by kernel_rfl) (fun _ _ _ h => h) (Or.inl ⟨by rfl, ?_⟩) (by assumption) ?_
  rotate_left
  · intro w hSw
    go_simp
    try with_reducible rfl
  simp only [Act.put, List.getElem_toArray, List.getElem_cons_zero, List.setIfInBounds_toArray, List.set_cons_zero, List.set_cons_succ]
  refine wpAnyH_take (i := 1) (v := ?_) rfl (by kernel_rfl) (by kernel_rfl) (by kernel_rfl) (fun _ _ _ h => h) (Or.inl ⟨by rfl, ?_⟩) (by assumption) ?_
  rotate_left
  · intro w hSw
    go_simp
    try with_reducible rfl
  simp only [Act.put, List.getElem_toArray, List.getElem_cons_zero, List.getElem_cons_succ, List.setIfInBounds_toArray, List.set_cons_zero, List.set_cons_succ]
  refine wpAnyH_take (i := 2) (v := ?_) rfl (by kernel_rfl) (by kernel_rfl) (by kernel_rfl) (fun _ _ _ h => h) (Or.inl ⟨by rfl, ?_⟩) (by assumption) ?_
  rotate_left
  · intro w hSw
    go_simp
    try with_reducible rfl
  simp only [Act.put, List.getElem_toArray, List.getElem_cons_zero, List.getElem_cons_succ, List.setIfInBounds_toArray, List.set_cons_zero, List.set_cons_succ]
  refine wpAnyH_take (i := 3) (v := ?_) rfl (by kernel_rfl) (by kernel_rfl) (by kernel_rfl) (fun _ _ _ h => h) (Or.inl ⟨by rfl, ?_⟩) (by assumption) ?_
  rotate_left
  · intro w hSw
    go_simp
    try with_reducible rfl
  simp only [Act.put, List.getElem_toArray, List.getElem_cons_zero, List.getElem_cons_succ, List.setIfInBounds_toArray, List.set_cons_zero, List.set_cons_succ]
  refine wpAnyH_take (i := 4) (v := ?_) rfl (by kernel_rfl) (by kernel_rfl) (by kernel_rfl) (fun _ _ _ h => h) (Or.inl ⟨by rfl, ?_⟩) (by assumption) ?_
  rotate_left
  · intro w hSw
    go_simp
    try with_reducible rfl
  simp only [Act.put, List.getElem_toArray, List.getElem_cons_zero, List.getElem_cons_succ, List.setIfInBounds_toArray, List.set_cons_zero, List.set_cons_succ]
  refine wpAnyH_take (i := 5) (v := ?_) rfl (by kernel_rfl) (by kernel_rfl) (by kernel_rfl) (fun _ _ _ h => h) (Or.inl ⟨by rfl, ?_⟩) (by assumption) ?_
  rotate_left
  · intro w hSw
    go_simp
    try with_reducible rfl
  simp only [Act.put, List.getElem_toArray, List.getElem_cons_zero, List.getElem_cons_succ, List.setIfInBounds_toArray, List.set_cons_zero, List.set_cons_succ]
  refine wpAnyH_ready (rs := [6]) (by kernel_rfl) (by simp) ?_
  refine AllReadyH.cons rfl (fun K hK => ?_) AllReadyH.nil
  go_simp
  refine (CJ.out _ B.out.drew.cnt).mono ?_
  rintro e w9 ⟨rfl, bc, kk⟩
  refine hK.out _ _ ((B.out.drew.on HC.out kk bc).held) (fun hHeld => ?_)
  clear hK K 
  have B1 := aside (B.out.drew.on HC.out kk bc)
  obtain ⟨s0, s1, s2, z0, z1, z2⟩ := tri B1.out.b3
  clear bc kk B
  refine wpAnyH_ready (rs := [7]) (by kernel_rfl) (by simp) ?_
  refine AllReadyH.cons rfl (fun K hK => ?_) AllReadyH.nil
  go_simp
  refine hK.out _ _ (bst_set hHeld B1.out (tJoin a b)) (fun hHeld => ?_)
  clear hK K 
  refine wpAnyH_done (by kernel_rfl) (NoPanic.normal ?_) _
  go_wp2
  have E := aside (bst_end HC.out B1.out (tJoin a b))
  obtain ⟨r0, r1, r2, -, -, -⟩ := tri (set3_same B1.out.b3 (tJoin a b))
  unfold set3 at E r0 r1 r2
  clear hHeld s0 s1 s2 z0 z1 z2 B1 CJ
  generalize ((w9.setCell ⟨W.heap.size + 1 + 1 + 1, 0, none⟩ (.int .i64 (tJoin a b).n)).setCell ⟨W.heap.size + 1 + 1 + 1, 1, none⟩ (.int .u64 (tJoin a b).a)).setCell ⟨W.heap.size + 1 + 1 + 1, 2, none⟩ (.int .u64 (tJoin a b).b) = W2 at *
  refine leaves_cons (f := 113) (args := #[.pointer (some ⟨W.heap.size, 0, none⟩), .pointer (some ⟨W.heap.size + 1 + 1 + 1, 0, none⟩)]) (by simp) (by simp [go_sem]) ?_
  refine (catch_idleE _ _ _).mono ?_
  rintro e u' w'' ⟨rfl, rfl, rfl⟩
  simp [Leaves, settle, results, Tryd.results103, go_sem, r0, r1, r2]
  exact E.out
end Go.Proofs.YtlbkcndmljlnmaaDoor
namespace Go.Proofs.YtlbkcndmljlnmaaDoor
open Go.RowKit
set_option linter.unusedVariables false
/-- What hang has laid; x is the sum so far. -/
structure HStE (w V : World) (tb n : Nat) (jv : Value) (root : Option Addr) (c : Option Nat) (k : ByteArray) (v : En) (s x : Tl) (l r : Tr En Tl) (lp rp : Option Addr) : Prop where
  keeps : Keeps (OnC c) w V
  cnt : CntE c n V
  tobj : TObjE V tb jv root
  row : V.heap[w.heap.size]? = some (.cells #[.string k, .string v.k, .int .i64 v.c, .int .i64 v.n, .string v.v, .bool v.d, .int .i64 s.n, .int .u64 s.a, .int .u64 s.b] 143 (0, 0))
  sm : V.heap[w.heap.size + 1]? = some (.cells #[.int .i64 x.n, .int .u64 x.a, .int .u64 x.b] 97 (0, 0))
  l : IsTE V lp l
  r : IsTE V rp r
theorem HStE.drew {w V : World} {tb n : Nat} {jv : Value} {root : Option Addr} {c : Option Nat} {k : ByteArray} {v : En} {s x : Tl} {l r : Tr En Tl} {lp rp : Option Addr} (h : HStE w V tb n jv root c k v s x l r lp rp) : HStE w V.drew tb n jv root c k v s x l r lp rp := ⟨h.keeps.drew, h.cnt.drew, h.tobj, h.row, h.sm, h.l.on (Stay.refl _ _).drew, h.r.on (Stay.refl _ _).drew⟩
theorem HStE.on {w V : World} {tb n : Nat} {jv : Value} {root : Option Addr} {c : Option Nat} {k : ByteArray} {v : En} {s x : Tl} {l r : Tr En Tl} {lp rp : Option Addr} {V' : World} {m n0 : Nat} (h : HStE w V tb n jv root c k v s x l r lp rp) (h0 : CntE c n0 w) (kk : Keeps (OnC c) V V') (hm : CntE c m V') : HStE w V' tb m jv root c k v s x l r lp rp :=
  ⟨h.keeps.trans kk, hm, h.tobj.onC h.cnt kk, blk_keep h.row kk (h0.lt (by omega)), blk_keep h.sm kk (h0.lt (by omega)), h.l.on ((Stay.refl _ _).onE h.cnt kk (by decide)), h.r.on ((Stay.refl _ _).onE h.cnt kk (by decide))⟩
theorem HStE.set {w V : World} {tb n : Nat} {jv : Value} {root : Option Addr} {c : Option Nat} {k : ByteArray} {v : En} {s x : Tl} {l r : Tr En Tl} {lp rp : Option Addr} {n0 : Nat} (h : HStE w V tb n jv root c k v s x l r lp rp) (h0 : CntE c n0 w) (y : Tl) : HStE w (set3 V (w.heap.size + 1) y) tb n jv root c k v s y l r lp rp := by
  have st : Stay 145 V (set3 V (w.heap.size + 1) y) := (Stay.refl _ V).set3 h.sm (by decide) y
  refine ⟨h.keeps.set3 (fun e => by omega) y, h.cnt.set3 (h0.lt (by omega)) y, ?_, ?_, set3_same h.sm y, h.l.on st, h.r.on st⟩
  · have ht := h.tobj
    unfold TObjE at ht ⊢
    have hne : tb ≠ w.heap.size + 1 := fun e => by rw [e, h.sm] at ht; simp at ht
    rw [set3_other _ _ _ _ hne]
    exact ht
  · rw [set3_other _ _ _ _ (by omega)]
    exact h.row
theorem hstE {w : World} {tb n : Nat} {jv : Value} {root : Option Addr} {c : Option Nat} {l r : Tr En Tl} {lp rp : Option Addr} (k : ByteArray) (v : En) (s : Tl) (ht : TObjE w tb jv root) (hc : CntE c n w) (hl : IsTE w lp l) (hr : IsTE w rp r) :
    HStE w ((w.alloc (.cells #[.string k, .string v.k, .int .i64 v.c, .int .i64 v.n, .string v.v, .bool v.d, .int .i64 s.n, .int .u64 s.a, .int .u64 s.b] 143)).alloc (.cells #[.int .i64 s.n, .int .u64 s.a, .int .u64 s.b] 97)) tb n jv root c k v s s l r lp rp := by
  have st : Stay 145 w ((w.alloc (.cells #[.string k, .string v.k, .int .i64 v.c, .int .i64 v.n, .string v.v, .bool v.d, .int .i64 s.n, .int .u64 s.a, .int .u64 s.b] 143)).alloc (.cells #[.int .i64 s.n, .int .u64 s.a, .int .u64 s.b] 97)) := ((Stay.refl _ w).alloc _).alloc _
  have h1 := heap_alloc_new (w.alloc (.cells #[.string k, .string v.k, .int .i64 v.c, .int .i64 v.n, .string v.v, .bool v.d, .int .i64 s.n, .int .u64 s.a, .int .u64 s.b] 143)) (.cells #[.int .i64 s.n, .int .u64 s.a, .int .u64 s.b] 97)
  simp only [World.size_alloc] at h1
  refine ⟨((Keeps.refl _ w).alloc _).alloc _, (hc.alloc _).alloc _, ?_, blk_on (heap_alloc_new w _) (bnew _ _), h1, hl.on st, hr.on st⟩
  unfold TObjE at ht ⊢
  exact blk_on (blk_on ht (bnew _ _)) (bnew _ _)
theorem HStE.alloc {w V : World} {tb n : Nat} {jv : Value} {root : Option Addr} {c : Option Nat} {k : ByteArray} {v : En} {s x : Tl} {l r : Tr En Tl} {lp rp : Option Addr} (h : HStE w V tb n jv root c k v s x l r lp rp) (o : Obj) : HStE w (V.alloc o) tb n jv root c k v s x l r lp rp := by
  refine ⟨h.keeps.alloc _, h.cnt.alloc _, ?_, blk_on h.row (bnew _ _), blk_on h.sm (bnew _ _), h.l.on ((Stay.refl _ _).alloc _), h.r.on ((Stay.refl _ _).alloc _)⟩
  have ht := h.tobj
  unfold TObjE at ht ⊢
  exact blk_on ht (bnew _ _)
theorem hangDoneE {w V : World} {tb n : Nat} {jv : Value} {root : Option Addr} {c : Option Nat} {k : ByteArray} {v : En} {s x : Tl} {l r : Tr En Tl} {lp rp : Option Addr} {n0 : Nat} {mh : Int} (hm : (if l.ht < r.ht then (r.ht : Int) else (l.ht : Int)) = mh) (h : HStE w V tb n jv root c k v s x l r lp rp) (hx : x = (Tr.node l k v s r).sum tJoin tZero) (hn : n = n0 + Tr.hangC l r) (hw : (Tr.node l k v s r).wt tSz ≤ 4611686018427387904) :
    (fun V' : World => ∃ p, Ending.returned (.pointer (some ⟨V.heap.size, 0, none⟩)) = .returned (.pointer p) ∧ IsTE V' p (Tr.node l k v s r) ∧ CntE c (n0 + Tr.hangC l r) V' ∧ Keeps (OnC c) w V') (World.drew (V.alloc (.cells #[.string k, .string v.k, .int .i64 v.c, .int .i64 v.n, .string v.v, .bool v.d, .int .i64 s.n, .int .u64 s.a, .int .u64 s.b, .pointer lp, .pointer rp, .int .i64 (IntKind.i64.wrap (IntKind.i64.wrap ((l.cnt : Int) + 1) + (r.cnt : Int))), .int .i64 (IntKind.i64.wrap (mh + 1)), .int .i64 x.n, .int .u64 x.a, .int .u64 x.b] 145))) := by
  subst hm
  have h1 := Tr.cnt_le_wt tSz (Tr.node l k v s r)
  have h2 := Tr.ht_le_cnt (Tr.node l k v s r)
  have e1 : IntKind.i64.wrap (IntKind.i64.wrap ((l.cnt : Int) + 1) + (r.cnt : Int)) = ((Tr.node l k v s r).cnt : Int) := by
    simp only [Tr.cnt] at h1 ⊢
    simp only [IntKind.wrap_i64]
    omega
  have e2 : IntKind.i64.wrap ((if l.ht < r.ht then (r.ht : Int) else (l.ht : Int)) + 1) = ((Tr.node l k v s r).ht : Int) := by
    simp only [Tr.ht, Tr.cnt] at h1 h2 ⊢
    split <;> simp only [IntKind.wrap_i64] <;> omega
  rw [e1, e2]
  subst hx hn
  exact ⟨_, rfl, ⟨_, _, _, rfl, heap_alloc_new V _, h.l.on ((Stay.refl _ _).alloc _).drew, h.r.on ((Stay.refl _ _).alloc _).drew⟩, (h.cnt.alloc _).drew, (h.keeps.alloc _).drew⟩
theorem HStE.held {w X : World} {tb n : Nat} {jv : Value} {root : Option Addr} {c : Option Nat} {k : ByteArray} {v : En} {s x : Tl} {l r : Tr En Tl} {lp rp : Option Addr} (h : HStE w X tb n jv root c k v s x l r lp rp) : X.cell? ⟨w.heap.size, 0, none⟩ = some (.string k) ∧ X.cell? ⟨w.heap.size, 1, none⟩ = some (.string v.k) ∧ X.cell? ⟨w.heap.size, 2, none⟩ = some (.int .i64 v.c) ∧ X.cell? ⟨w.heap.size, 3, none⟩ = some (.int .i64 v.n) ∧ X.cell? ⟨w.heap.size, 4, none⟩ = some (.string v.v) ∧ X.cell? ⟨w.heap.size, 5, none⟩ = some (.bool v.d) ∧ X.cell? ⟨w.heap.size, 6, none⟩ = some (.int .i64 s.n) ∧ X.cell? ⟨w.heap.size, 7, none⟩ = some (.int .u64 s.a) ∧ X.cell? ⟨w.heap.size, 8, none⟩ = some (.int .u64 s.b) ∧ X.cell? ⟨w.heap.size + 1, 0, none⟩ = some (.int .i64 x.n) ∧ X.cell? ⟨w.heap.size + 1, 1, none⟩ = some (.int .u64 x.a) ∧ X.cell? ⟨w.heap.size + 1, 2, none⟩ = some (.int .u64 x.b) ∧ Hid (HStE w X tb n jv root c k v s x l r lp rp) := by
  have h1 := h.row
  have h2 := h.sm
  simp only [World.cell?, h1, h2]
  exact ⟨rfl, rfl, rfl, rfl, rfl, rfl, rfl, rfl, rfl, rfl, rfl, rfl, h⟩
end Go.Proofs.YtlbkcndmljlnmaaDoor

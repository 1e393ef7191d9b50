/-
  All of the code and of the document over a list of entries in memory.
-/
import Derived.Test.YtccfhegckdmanaaDoorMAdd
import Derived.Test.YtccfhegckdmanaaDoorMOf
import Derived.Test.YtccfhegckdmanaaDoorMRef
import Derived.Test.YtccfhegckdmanaaDoorMEnts
namespace Go.Proofs.YtccfhegckdmanaaDoor
open Go.RowKit
set_option linter.unusedVariables false

def f0 (e : En) : Int := of0 e.k e.c e.n
def f1 (e : En) : Int := of1 e.k e.c e.n

/-- What a list of entries comes to in one lane. -/
def allI (f : En → Int) (l : List En) : Int := IntKind.u64.wrap ((l.map f).sum)

theorem wrap_add (x y : Int) : IntKind.u64.wrap (IntKind.u64.wrap x + y) = IntKind.u64.wrap (x + y) := by
  rw [IntKind.wrap_u64, IntKind.wrap_u64, IntKind.wrap_u64]; omega

theorem allI_nil (f : En → Int) : allI f [] = 0 := by unfold allI; rw [IntKind.wrap_u64]; rfl

theorem allI_snoc (f : En → Int) (l : List En) (e : En) : allI f (l ++ [e]) = IntKind.u64.wrap (allI f l + f e) := by
  unfold allI
  rw [wrap_add, List.map_append, List.sum_append]
  simp

def firstE (T : Nat → En) (n : Nat) : List En := (List.range n).map T

theorem firstE_succ (T : Nat → En) (n : Nat) : firstE T (n + 1) = firstE T n ++ [T n] := by simp [firstE, List.range_succ]

def allV (T : Nat → En) (n : Nat) : Value := .agg #[.int .u64 (allI f0 (firstE T n)), .int .u64 (allI f1 (firstE T n))]

/-- What is kept of the memory in All's loop. -/
structure AllSt (w wr : World) (x0 x1 : Int) : Prop where
  below : Below w.heap.size w wr
  sz : w.heap.size + 2 ≤ wr.heap.size
  r : wr.heap[w.heap.size]? = some (.cells #[.int .u64 0, .int .u64 0] 26 (0, 0))
  s : wr.heap[w.heap.size + 1]? = some (.cells #[.int .u64 x0, .int .u64 x1] 26 (0, 0))

theorem AllSt.keep {w wr w2 : World} {x0 x1 : Int} (h : AllSt w wr x0 x1) (b : Below wr.heap.size wr w2) : AllSt w w2 x0 x1 :=
  ⟨h.below.trans (b.mono h.below.size), by have := b.size; have := h.sz; omega, blk_on h.r b, blk_on h.s b⟩

theorem AllSt.drew {w wr : World} {x0 x1 : Int} (h : AllSt w wr x0 x1) : AllSt w wr.drew x0 x1 := ⟨h.below.drew, h.sz, h.r, h.s⟩

theorem AllSt.set {w wr : World} {x0 x1 : Int} (h : AllSt w wr x0 x1) (y0 y1 : Int) : AllSt w ((wr.setCell ⟨w.heap.size + 1, 0, none⟩ (.int .u64 y0)).setCell ⟨w.heap.size + 1, 1, none⟩ (.int .u64 y1)) y0 y1 := by
  have s1 := heap_setCell_same wr (w.heap.size + 1) 0 _ _ (.int .u64 y0) h.s
  have s2 := heap_setCell_same _ (w.heap.size + 1) 1 _ _ (.int .u64 y1) s1
  refine ⟨(h.below.setCell (by simp) _).setCell (by simp) _, by simpa using h.sz, ?_, s2⟩
  rw [heap_setCell_other _ _ _ _ (by simp), heap_setCell_other _ _ _ _ (by simp)]; exact h.r

theorem all_start (w : World) : AllSt w ((w.alloc (.cells #[.int .u64 0, .int .u64 0] 26)).alloc (.cells #[.int .u64 0, .int .u64 0] 26)) 0 0 := by
  refine ⟨(bnew w _).alloc (by simp) _, by simp, blk_on (heap_alloc_new w _) (bnew _ _), ?_⟩
  have := heap_alloc_new (w.alloc (.cells #[.int .u64 0, .int .u64 0] 26)) (.cells #[.int .u64 0, .int .u64 0] 26)
  simpa using this



end Go.Proofs.YtccfhegckdmanaaDoor

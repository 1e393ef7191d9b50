/-
  All of the code and of the document over a list of entries in memory.
-/
import Derived.Test.YtlieljnaecbmdaaDoorMAdd
import Derived.Test.YtlieljnaecbmdaaDoorMOf
import Derived.Test.YtlieljnaecbmdaaDoorMRef
import Derived.Test.YtlieljnaecbmdaaDoorMEnts
namespace Go.Proofs.YtlieljnaecbmdaaDoor
open Go.RowKit
set_option linter.unusedVariables false

def f0 (e : En) : Int := of0 e.k e.c e.n
def f1 (e : En) : Int := of1 e.k e.c e.n

/-- What a list of entries comes to in one lane. -/
def allI (f : En → Int) (l : List En) : Int := IntKind.u64.wrap ((l.map f).sum)

theorem wrap_add (x y : Int) : IntKind.u64.wrap (IntKind.u64.wrap x + y) = IntKind.u64.wrap (x + y) := by
  rw [IntKind.wrap_u64, IntKind.wrap_u64, IntKind.wrap_u64]; omega

theorem allI_nil (f : En → Int) : allI f [] = 0 := by unfold allI; rw [IntKind.wrap_u64]; rfl

theorem allI_snoc (f : En → Int) (l : List En) (e : En) : allI f (l ++ [e]) = IntKind.u64.wrap (allI f l + f e) := by
  unfold allI
  rw [wrap_add, List.map_append, List.sum_append]
  simp

def firstE (T : Nat → En) (n : Nat) : List En := (List.range n).map T

theorem firstE_succ (T : Nat → En) (n : Nat) : firstE T (n + 1) = firstE T n ++ [T n] := by simp [firstE, List.range_succ]

def allV (T : Nat → En) (n : Nat) : Value := .agg #[.int .u64 (allI f0 (firstE T n)), .int .u64 (allI f1 (firstE T n))]

/-- What is kept of the memory in All's loop. -/
structure AllSt (w wr : World) (x0 x1 : Int) : Prop where
  below : Below w.heap.size w wr
  sz : w.heap.size + 2 ≤ wr.heap.size
  r : wr.heap[w.heap.size]? = some (.cells #[.int .u64 0, .int .u64 0] 27 (0, 0))
  s : wr.heap[w.heap.size + 1]? = some (.cells #[.int .u64 x0, .int .u64 x1] 27 (0, 0))

theorem AllSt.keep {w wr w2 : World} {x0 x1 : Int} (h : AllSt w wr x0 x1) (b : Below wr.heap.size wr w2) : AllSt w w2 x0 x1 :=
  ⟨h.below.trans (b.mono h.below.size), by have := b.size; have := h.sz; omega, blk_on h.r b, blk_on h.s b⟩

theorem AllSt.drew {w wr : World} {x0 x1 : Int} (h : AllSt w wr x0 x1) : AllSt w wr.drew x0 x1 := ⟨h.below.drew, h.sz, h.r, h.s⟩

theorem AllSt.set {w wr : World} {x0 x1 : Int} (h : AllSt w wr x0 x1) (y0 y1 : Int) : AllSt w ((wr.setCell ⟨w.heap.size + 1, 0, none⟩ (.int .u64 y0)).setCell ⟨w.heap.size + 1, 1, none⟩ (.int .u64 y1)) y0 y1 := by
  have s1 := heap_setCell_same wr (w.heap.size + 1) 0 _ _ (.int .u64 y0) h.s
  have s2 := heap_setCell_same _ (w.heap.size + 1) 1 _ _ (.int .u64 y1) s1
  refine ⟨(h.below.setCell (by simp) _).setCell (by simp) _, by simpa using h.sz, ?_, s2⟩
  rw [heap_setCell_other _ _ _ _ (by simp), heap_setCell_other _ _ _ _ (by simp)]; exact h.r

theorem all_start (w : World) : AllSt w ((w.alloc (.cells #[.int .u64 0, .int .u64 0] 27)).alloc (.cells #[.int .u64 0, .int .u64 0] 27)) 0 0 := by
  refine ⟨(bnew w _).alloc (by simp) _, by simp, blk_on (heap_alloc_new w _) (bnew _ _), ?_⟩
  have := heap_alloc_new (w.alloc (.cells #[.int .u64 0, .int .u64 0] 27)) (.cells #[.int .u64 0, .int .u64 0] 27)
  simpa using this

set_option maxHeartbeats 3200000 in
set_option maxRecDepth 100000 in
theorem all_any (a : Option Addr) (len cap : Nat) (T : Nat → En) (w : World) (L : Lanes w) (h : EntsIn w a len cap T) :
    Calls Tryd.prog 12 #[.slice a len cap] w fun e w' => e = .returned (allV T len) ∧ Below w.heap.size w w' := by
  have LL := aside L
  clear L
  have HE := aside h
  obtain ⟨hlc, hcm, -⟩ := h
  have hmx : (len : Int) ≤ 9223372036854775807 := by unfold maxLen at hcm; omega
  clear hlc hcm
  go_enter Tryd.func12, Tryd.ntmps12
  go_wp2
  go_loopw [8] (fun i wr => ∃ j : Nat, i = .int .i64 (j : Int) ∧ j ≤ len ∧ AllSt w wr (allI f0 (firstE T j)) (allI f1 (firstE T j))) (fun i _ => len - (intOf i).toNat)
  case atStart =>
    refine ⟨0, rfl, Nat.zero_le _, ?_⟩
    rw [show firstE T 0 = [] from rfl, allI_nil, allI_nil]
    exact all_start w
  case round =>
    obtain ⟨j, rfl, hj, S⟩ := hrel
    have HS := aside S
    by_cases hlt : (j : Int) < (len : Int)
    · have hE := HE.out.keep S.below
      rcases hE.2.2 with h0 | ⟨b, off, rfl, hb, hc⟩
      · omega
      · obtain ⟨⟨c0, c1, c2, c3, c4⟩, hkk⟩ := hc j (by omega)
        have e0 := allI_snoc f0 (firstE T j) (T j)
        have e1 := allI_snoc f1 (firstE T j) (T j)
        rw [← firstE_succ, f0] at e0
        rw [← firstE_succ, f1] at e1
        have E0 := aside e0
        have E1 := aside e1
        have hsz := S.sz
        obtain ⟨-, -, -, s1⟩ := S
        obtain ⟨p0, p1, p2, p3⟩ := pair s1
        generalize T j = t at *
        generalize allI f0 (firstE T j) = x0 at *
        generalize allI f1 (firstE T j) = x1 at *
        have hj0 : (0 : Int) ≤ (j : Int) := by omega
        clear e0 e1 hc hE s1
        have HS4 := aside (HS.out.keep (bnew wr (.cells #[.string t.k, .int .i64 t.c, .int .i64 t.n, .string t.v, .bool t.d] 32)))
        have R5 := quint (heap_alloc_new wr (.cells #[.string t.k, .int .i64 t.c, .int .i64 t.n, .string t.v, .bool t.d] 32))
        have HR5 := aside R5
        clear R5
        go_wp2_with fail
        clear p0 p1 p2 p3 c0 c1 c2 c3 c4 hb hsz
        generalize wr.alloc (.cells #[.string t.k, .int .i64 t.c, .int .i64 t.n, .string t.v, .bool t.d] 32) = V at *
        generalize wr.heap.size = g at *
        obtain ⟨r0, r1, r2, r3, r4⟩ := HR5.out
        obtain ⟨-, -, -, s4⟩ := HS4.out
        obtain ⟨p0, p1, p2, p3⟩ := pair s4
        clear s4 HR5
        go_region_with (first | (go_at_call 10; refine (of_any _ _ _ _ (LL.out.keep HS4.out.drew.below) (by omega)).mono ?_; rintro e w1 ⟨rfl, b1⟩; have S5 := HS4.out.drew.keep b1; have HS5 := aside S5; obtain ⟨-, -, -, s5⟩ := S5; obtain ⟨q0, q1, q2, q3⟩ := pair s5; clear s5 b1) | (go_at_call 14; refine (add_any _ _ _ _ _).mono ?_; rintro e w2 ⟨rfl, b2⟩; have S6 := HS5.out.keep b2; have HS6 := aside S6; obtain ⟨-, -, -, s6⟩ := S6; obtain ⟨y0, y1, y2, y3⟩ := pair s6; clear s6 b2))
        all_goals
          go_wp2
          go_roundw
          case rel =>
            refine ⟨j + 1, by go_num, by omega, ?_⟩
            rw [E0.out, E1.out]
            exact HS6.out.set _ _
          case measure => simp [intOf]; omega
    · have hjl : j = len := by omega
      subst hjl
      obtain ⟨-, hsz, s1, s2⟩ := S
      obtain ⟨p0, p1, p2, p3⟩ := pair s1
      obtain ⟨q0, q1, q2, q3⟩ := pair s2
      clear s1 s2
      go_wp2
      exact bodyPost_ret (v := allV T j) (by simp [results, Tryd.results12, go_sem, p0, p1, allV]) rfl ⟨rfl, (HS.out.below.setCell (by simp) _).setCell (by simp) _⟩

set_option maxHeartbeats 3200000 in
set_option maxRecDepth 100000 in
theorem allRef_any (a : Option Addr) (len cap : Nat) (T : Nat → En) (w : World) (h : EntsIn w a len cap T) :
    Calls Tryd.prog 13 #[.slice a len cap] w fun e w' => e = .returned (allV T len) ∧ Below w.heap.size w w' := by
  have HE := aside h
  obtain ⟨hlc, hcm, -⟩ := h
  have hmx : (len : Int) ≤ 9223372036854775807 := by unfold maxLen at hcm; omega
  clear hlc hcm
  go_enter Tryd.func13, Tryd.ntmps13
  go_wp2
  go_loopw [9] (fun i wr => ∃ j : Nat, i = .int .i64 (j : Int) ∧ j ≤ len ∧ AllSt w wr (allI f0 (firstE T j)) (allI f1 (firstE T j))) (fun i _ => len - (intOf i).toNat)
  case atStart =>
    refine ⟨0, rfl, Nat.zero_le _, ?_⟩
    rw [show firstE T 0 = [] from rfl, allI_nil, allI_nil]
    exact all_start w
  case round =>
    obtain ⟨j, rfl, hj, S⟩ := hrel
    have HS := aside S
    by_cases hlt : (j : Int) < (len : Int)
    · have hE := HE.out.keep S.below
      rcases hE.2.2 with h0 | ⟨b, off, rfl, hb, hc⟩
      · omega
      · obtain ⟨⟨c0, c1, c2, c3, c4⟩, hkk⟩ := hc j (by omega)
        have e0 := allI_snoc f0 (firstE T j) (T j)
        have e1 := allI_snoc f1 (firstE T j) (T j)
        rw [← firstE_succ, f0] at e0
        rw [← firstE_succ, f1] at e1
        have E0 := aside e0
        have E1 := aside e1
        have hsz := S.sz
        obtain ⟨-, -, -, s1⟩ := S
        obtain ⟨p0, p1, p2, p3⟩ := pair s1
        generalize T j = t at *
        generalize allI f0 (firstE T j) = x0 at *
        generalize allI f1 (firstE T j) = x1 at *
        have hj0 : (0 : Int) ≤ (j : Int) := by omega
        clear e0 e1 hc hE s1
        have HS4 := aside (HS.out.keep (bnew wr (.cells #[.string t.k, .int .i64 t.c, .int .i64 t.n, .string t.v, .bool t.d] 32)))
        have R5 := quint (heap_alloc_new wr (.cells #[.string t.k, .int .i64 t.c, .int .i64 t.n, .string t.v, .bool t.d] 32))
        have HR5 := aside R5
        clear R5
        go_wp2_with fail
        clear p0 p1 p2 p3 c0 c1 c2 c3 c4 hb hsz
        generalize wr.alloc (.cells #[.string t.k, .int .i64 t.c, .int .i64 t.n, .string t.v, .bool t.d] 32) = V at *
        generalize wr.heap.size = g at *
        obtain ⟨r0, r1, r2, r3, r4⟩ := HR5.out
        obtain ⟨-, -, -, s4⟩ := HS4.out
        obtain ⟨p0, p1, p2, p3⟩ := pair s4
        clear s4 HR5
        go_region_with (first | (go_at_call 11; refine (ofRef_any _ _ _ _ hkk).mono ?_; rintro e w1 ⟨rfl, b1⟩; have S5 := HS4.out.drew.keep b1; have HS5 := aside S5; obtain ⟨-, -, -, s5⟩ := S5; obtain ⟨q0, q1, q2, q3⟩ := pair s5; clear s5 b1) | (go_at_call 15; refine (addRef_any _ _ _ _ _).mono ?_; rintro e w2 ⟨rfl, b2⟩; have S6 := HS5.out.keep b2; have HS6 := aside S6; obtain ⟨-, -, -, s6⟩ := S6; obtain ⟨y0, y1, y2, y3⟩ := pair s6; clear s6 b2))
        all_goals
          go_wp2
          go_roundw
          case rel =>
            refine ⟨j + 1, by go_num, by omega, ?_⟩
            rw [E0.out, E1.out]
            exact HS6.out.set _ _
          case measure => simp [intOf]; omega
    · have hjl : j = len := by omega
      subst hjl
      obtain ⟨-, hsz, s1, s2⟩ := S
      obtain ⟨p0, p1, p2, p3⟩ := pair s1
      obtain ⟨q0, q1, q2, q3⟩ := pair s2
      clear s1 s2
      go_wp2
      exact bodyPost_ret (v := allV T j) (by simp [results, Tryd.results13, go_sem, p0, p1, allV]) rfl ⟨rfl, (HS.out.below.setCell (by simp) _).setCell (by simp) _⟩

end Go.Proofs.YtlieljnaecbmdaaDoor

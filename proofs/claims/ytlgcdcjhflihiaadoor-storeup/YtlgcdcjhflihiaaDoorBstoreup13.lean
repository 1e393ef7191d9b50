/-
  Plain mathematics: the order of texts, told by numbers for finitely many texts at a time.
  The iterator over neighbours: what it hands to a loop's body, over every slice of ranges.
  Meet, the code's: it returns what the plain function gives, and writes nothing that was there.
  slices.ContainsFunc of Empty over every slice of ranges.
  Rising, the code's: it returns what the plain function gives, and writes nothing that was there.
  cut, the code's: the pieces of a range at borders, in a slice of its own.
  Split, the code's.
  Tile, the code's: it returns what the plain function gives, and writes nothing that was there.
-/
import Derived.Test.YtlgcdcjhflihiaaDoorBstoreup6
import Derived.Test.YtlgcdcjhflihiaaDoorBstoreup1
import Derived.Test.YtlgcdcjhflihiaaDoorBstoreup7
import Derived.RangeFuncNested
import Derived.RangeFuncBound
import Derived.RangeFuncCalls
import Derived.RangeFuncLeaves
import Derived.Shelf.Abstract
import Derived.Shelf.RegionOpen
import Derived.OwnWalkIn
import Derived.TacticsInMore
import Derived.LoopNIn
import Derived.LoopIn
import Derived.Stop.RegionWithIn
import Derived.Laws.ResultCell
import Derived.Deep.RegionHeld3
namespace Go.Proofs.YtlgcdcjhflihiaaDoor
theorem countP_lt {α : Type} (p q : α → Bool) : ∀ (S : List α) (x : α), (∀ z, p z = true → q z = true) → x ∈ S → p x = false → q x = true → S.countP p < S.countP q
  | s :: S, x, h, hm, hp, hq => by
    rcases List.mem_cons.1 hm with rfl | hm
    · have := List.countP_mono_left (p := p) (q := q) (l := S) (fun z _ hz => h z hz)
      simp [hp, hq]; omega
    · have := countP_lt p q S x h hm hp hq
      cases hs : p s
      · cases hs2 : q s <;> simp [hs, hs2] <;> omega
      · simp [hs, h s hs]; omega

/-- A text's place among some texts. -/
def rk (S : List (List UInt8)) (x : List UInt8) : Nat := S.countP fun z => Op.bytesLess z x

theorem rk_of_lt {S : List (List UInt8)} {x y : List UInt8} (hx : x ∈ S) (h : Op.bytesLess x y = true) : rk S x < rk S y :=
  countP_lt _ _ S x (fun z hz => L_trans z x y hz h) hx (L_irrefl x) h

theorem rk_lt {S : List (List UInt8)} {x y : List UInt8} (hx : x ∈ S) (hy : y ∈ S) : Op.bytesLess x y = decide (rk S x < rk S y) := by
  cases h : Op.bytesLess x y
  · cases h2 : Op.bytesLess y x
    · rw [L_total x y h h2]; simp
    · have := rk_of_lt hy h2
      symm; apply decide_eq_false; omega
  · have := rk_of_lt hx h
    symm; exact decide_eq_true this

theorem rk_eq {S : List (List UInt8)} {x y : List UInt8} (hx : x ∈ S) (hy : y ∈ S) : (x == y) = decide (rk S x = rk S y) := by
  by_cases e : x = y
  · subst e; simp
  · have h1 := rk_lt hx hy; have h2 := rk_lt hy hx
    have : rk S x ≠ rk S y := by
      intro e2
      apply e
      apply L_total
      · rw [h1]; apply decide_eq_false; omega
      · rw [h2]; apply decide_eq_false; omega
    rw [decide_eq_false this]
    simpa using e

end Go.Proofs.YtlgcdcjhflihiaaDoor
namespace Go.Proofs.YtlgcdcjhflihiaaDoor
open Go.RowKit Go.Shelf
attribute [local go_sem] Oper.semAt_some
/-- What has come when k rounds are over. -/
def upto {α : Type} (f : Nat → α) (k : Nat) : List α := (List.range k).map f

theorem upto_succ {α : Type} (f : Nat → α) (k : Nat) : upto f (k + 1) = upto f k ++ [f k] := by simp [upto, List.range_succ]

theorem upto_length {α : Type} (f : Nat → α) (k : Nat) : (upto f k).length = k := by simp [upto]

/-- The ranges T 0, T 1 .. lie one behind the other, three cells each, below n₀. -/
def RgsIn (n₀ : Nat) (w : World) (a : Option Addr) (len cap : Nat) (T : Nat → Rg) : Prop :=
  len ≤ cap ∧ len * 40 ≤ 281474976710656 ∧ (len = 0 ∨ ∃ blk off, a = some ⟨blk, off, none⟩ ∧ blk < n₀ ∧ ∀ i, i < len →
    (w.cell? ⟨blk, off + i * 3, none⟩ = some (.string (T i).lo) ∧ w.cell? ⟨blk, off + i * 3 + 1, none⟩ = some (.string (T i).hi) ∧ w.cell? ⟨blk, off + i * 3 + 2, none⟩ = some (.bool (T i).op)))

theorem RgsIn.below {n₀ : Nat} {A B : World} (h : Below n₀ A B) {a : Option Addr} {len cap : Nat} {T : Nat → Rg} (hr : RgsIn n₀ A a len cap T) : RgsIn n₀ B a len cap T := by
  obtain ⟨h1, h2, h3⟩ := hr
  refine ⟨h1, h2, ?_⟩
  rcases h3 with h3 | ⟨blk, off, e, hb, hc⟩
  · exact .inl h3
  · exact .inr ⟨blk, off, e, hb, fun i hi => ⟨(h.cell (p := ⟨blk, off + i * 3, none⟩) hb).trans (hc i hi).1, (h.cell (p := ⟨blk, off + i * 3 + 1, none⟩) hb).trans (hc i hi).2.1, (h.cell (p := ⟨blk, off + i * 3 + 2, none⟩) hb).trans (hc i hi).2.2⟩⟩

def pairV (x : Rg × Rg) : Array Value := #[.agg #[.string x.1.lo, .string x.1.hi, .bool x.1.op], .agg #[.string x.2.lo, .string x.2.hi, .bool x.2.op]]

/-- How a round may end: it goes on, or it says no more. -/
def wentOn (n₀ : Nat) (W : World) (J Jx : List (Rg × Rg) → World → Prop) (xs : List (Rg × Rg)) (q : Bool) (W' : World) : Prop :=
  (q = true ∧ J xs W' ∧ Below n₀ W W') ∨ (q = false ∧ Jx xs W')

theorem grown_drew0 (w : World) : w.grownBy w.drew none := ⟨rfl, rfl, rfl, Nat.le_refl _, fun _ _ _ => rfl⟩

set_option maxRecDepth 100000 in
set_option maxHeartbeats 4000000 in
theorem nb1_in (n : Nat) (hn : 1 ≤ n) (l Bs n₀ b off len cap : Nat) (T : Nat → Rg) (hreach : len * 40 ≤ 281474976710656) (hb : b < n₀) (hlen : 0 < len) (J Jx : List (Rg × Rg) → World → Prop)
    (hY : ∀ pre x W, J pre W → pre.length < len - 1 → YieldAt Fence.wide (n - 1) Tryd.prog l (pairV x) W fun e W' =>
      (e = .returned (.bool true) ∧ J (pre ++ [x]) W' ∧ Below n₀ W W') ∨ (e = .returned (.bool false) ∧ Jx (pre ++ [x]) W'))
    (W : World) (hJ : AbidesFrom W.heap.size J) (hBb : Bs < n₀) (hBs : W.cell? ⟨Bs, 0, none⟩ = some (.slice (some ⟨b, off, none⟩) len cap))
    (hc : ∀ i, i < len → (W.cell? ⟨b, off + i * 3, none⟩ = some (.string (T i).lo) ∧ W.cell? ⟨b, off + i * 3 + 1, none⟩ = some (.string (T i).hi) ∧ W.cell? ⟨b, off + i * 3 + 2, none⟩ = some (.bool (T i).op))) (h0 : J [] W) :
    CallsIn Fence.wide n Tryd.prog 72 #[.func (.yield l) #[] #[], .pointer (some ⟨Bs, 0, none⟩)] W fun e W' => (∃ v, e = .returned v) ∧
      ((∃ ys, ys = upto (fun j => (T j, T (j + 1))) (len - 1) ∧ J ys W') ∨ (∃ pre, (∃ k, k ≤ len - 1 ∧ pre = upto (fun j => (T j, T (j + 1))) k) ∧ Jx pre W')) := by
  refine callsIn_of_wp Tryd.func72 rfl trivial ?_ rfl
  simp only [Tryd.ntmps72, List.size_toArray, List.length_cons, List.length_nil, Nat.reduceAdd, Nat.reduceSub, Array.replicate_succ, Array.replicate_zero, List.push_toArray, List.append_toArray, List.nil_append, List.cons_append]
  gi_wp2
  gi_loopw [3] (fun i wr => ∃ k : Nat, k + 1 ≤ len ∧ i = .int .i64 ((k : Int) + 1) ∧ J (upto (fun j => (T j, T (j + 1))) k) wr ∧ Below n₀ W wr)
    (fun i _ => len - (intOf i).toNat)
  case atStart => exact ⟨0, by omega, rfl, h0, Below.refl _ _⟩
  case round =>
    obtain ⟨k, hk, rfl, hJs, hnx⟩ := hrel
    have hs := (hnx.cell (p := ⟨Bs, 0, none⟩) hBb).trans hBs
    by_cases hlt : k + 1 < len
    · obtain ⟨c0, c1, c2⟩ := hc k (by omega)
      obtain ⟨d0, d1, d2⟩ := hc (k + 1) (by omega)
      have c0' := (hnx.cell (p := ⟨b, off + k * 3, none⟩) hb).trans c0
      have c1' := (hnx.cell (p := ⟨b, off + k * 3 + 1, none⟩) hb).trans c1
      have c2' := (hnx.cell (p := ⟨b, off + k * 3 + 2, none⟩) hb).trans c2
      have d0' := (hnx.cell (p := ⟨b, off + (k + 1) * 3, none⟩) hb).trans d0
      have d1' := (hnx.cell (p := ⟨b, off + (k + 1) * 3 + 1, none⟩) hb).trans d1
      have d2' := (hnx.cell (p := ⟨b, off + (k + 1) * 3 + 2, none⟩) hb).trans d2
      obtain ⟨fn, tmps, assign, body, hy, hR⟩ := hY _ (T k, T (k + 1)) wr.drew (hJ _ _ _ none hJs (grown_drew0 wr) (fun r e => by cases e)) (by rw [upto_length]; omega)
      dsimp only [pairV] at hy
      have hQ := hR.mono (R' := fun e W' => ∃ q : Bool, e = .returned (.bool q) ∧ wentOn n₀ wr.drew J Jx (upto (fun j => (T j, T (j + 1))) k ++ [(T k, T (k + 1))]) q W') (fun e W' h => by
        rcases h with ⟨rfl, h1, h2⟩ | ⟨rfl, h1⟩
        · exact ⟨true, rfl, .inl ⟨rfl, h1, h2⟩⟩
        · exact ⟨false, rfl, .inr ⟨rfl, h1⟩⟩)
      clear hc c0 c1 c2 d0 d1 d2 hY hBs hR
      have hlt' : (k : Int) + 1 < (len : Int) := by omega
      have hk0 : (0 : Int) ≤ (k : Int) := by omega
      have hk1 : (k : Int) < (len : Int) := by omega
      have hk2 : (0 : Int) ≤ (k : Int) + 1 := by omega
      have hw2 : IntKind.i64.wrap (k : Int) = (k : Int) := by simp only [IntKind.wrap_i64]; omega
      gi_wp2
      gi_region_with (refine hQ.mono ?_; rintro e W3 ⟨q, rfl, hq⟩)
      all_goals
        clear hy hQ hw2
        rcases hq with ⟨rfl, hJ3, hk3⟩ | ⟨rfl, hJx3⟩
        · gi_wp2
          go_roundw
          case rel => exact ⟨k + 1, by omega, by go_num, by rw [upto_succ]; exact hJ3, hnx.drew.trans hk3⟩
          case measure => simp [intOf]; omega
        · gi_wp2
          refine bodyPost_ret (results_none rfl _ _ _) rfl ?_
          exact ⟨⟨_, rfl⟩, .inr ⟨_, ⟨k + 1, by omega, (upto_succ _ _).symm⟩, hJx3⟩⟩
    · obtain rfl : len = k + 1 := by omega
      have hge : ¬ ((k : Int) + 1 < ((k + 1 : Nat) : Int)) := by omega
      gi_wp2
      go_end0
      exact ⟨⟨_, rfl⟩, .inl hJs⟩

set_option maxRecDepth 100000 in
set_option maxHeartbeats 1000000 in
/-- No range: no round. -/
theorem nb1_nil_in (n : Nat) (l Bs cap : Nat) (a : Option Addr) (J : List (Rg × Rg) → World → Prop) (W : World) (hBs : W.cell? ⟨Bs, 0, none⟩ = some (.slice a 0 cap)) (h0 : J [] W) :
    CallsIn Fence.wide n Tryd.prog 72 #[.func (.yield l) #[] #[], .pointer (some ⟨Bs, 0, none⟩)] W fun e W' => (∃ v, e = .returned v) ∧ J [] W' := by
  refine callsIn_of_wp Tryd.func72 rfl trivial ?_ rfl
  simp only [Tryd.ntmps72, List.size_toArray, List.length_cons, List.length_nil, Nat.reduceAdd, Nat.reduceSub, Array.replicate_succ, Array.replicate_zero, List.push_toArray, List.append_toArray, List.nil_append, List.cons_append]
  gi_wp2
  gi_loopw [3] (fun i wr => i = .int .i64 1 ∧ wr = W) (fun _ _ => 0)
  case atStart => exact ⟨rfl, rfl⟩
  case round =>
    obtain ⟨rfl, rfl⟩ := hrel
    gi_wp2
    go_end0
    exact ⟨⟨_, rfl⟩, h0⟩

set_option maxHeartbeats 1000000 in
/-- neighbours: the slice is boxed; the function value captures the box. -/
theorem nb_in (n : Nat) (a : Option Addr) (len cap : Nat) (w : World) :
    CallsIn Fence.wide n Tryd.prog 47 #[.slice a len cap] w fun e w' => e = .returned (.func (.func 72) #[] #[.pointer (some ⟨w.heap.size, 0, none⟩)]) ∧ w' = w.alloc (.cells #[.slice a len cap] 47) := by
  refine callsIn_of_wp Tryd.func47 rfl trivial ?_ rfl
  simp only [Tryd.ntmps47, List.size_toArray, List.length_cons, List.length_nil, Nat.reduceAdd, Nat.reduceSub, Array.replicate_succ, Array.replicate_zero, List.push_toArray, List.append_toArray, List.nil_append, List.cons_append]
  gi_wp2
  go_ret
  exact ⟨rfl, rfl⟩

/-- The pairs, in their order; or the first k of them, where a round has said no more. -/
theorem nb_stops (n : Nat) (hn : 1 ≤ n) (Bs n₀ : Nat) (a : Option Addr) (len cap : Nat) (T : Nat → Rg) (w : World) (hBs : Bs < n₀) (hn₀ : n₀ ≤ w.heap.size)
    (hc : w.cell? ⟨Bs, 0, none⟩ = some (.slice a len cap)) (hI : RgsIn n₀ w a len cap T) :
    SeqStopsK Fence.wide n Tryd.prog 72 #[.pointer (some ⟨Bs, 0, none⟩)] pairV (Below n₀) (fun ys => ys = upto (fun j => (T j, T (j + 1))) (len - 1))
      (fun pre => ∃ k, k ≤ len - 1 ∧ pre = upto (fun j => (T j, T (j + 1))) k) (len - 1) w := fun l J Jx W hW hJ _ hY h0 => by
  have hc' := (hW.cell (p := ⟨Bs, 0, none⟩) (Nat.lt_of_lt_of_le hBs hn₀)).trans hc
  obtain ⟨h1, h2, h3⟩ := hI.below (hW.mono hn₀)
  by_cases h0l : len = 0
  · subst h0l
    exact (nb1_nil_in n l Bs cap a J W hc' h0).mono fun e W' ⟨he, hj⟩ => ⟨he, .inl ⟨_, rfl, hj⟩⟩
  · rcases h3 with h3 | ⟨b, off, rfl, hb, hcs⟩
    · exact absurd h3 h0l
    · exact nb1_in n hn l Bs n₀ b off len cap T (by omega) hb (by omega) J Jx hY W hJ hBs hc' hcs h0

end Go.Proofs.YtlgcdcjhflihiaaDoor
namespace Go.Proofs.YtlgcdcjhflihiaaDoor
open Go.RowKit
/-- A block of three cells, as the walk asks for it. -/
theorem box_out {W : World} {k : Nat} {a b c : Value} {t : TypeId} (h : W.heap[k]? = some (.cells #[a, b, c] t (0, 0))) :
    (W.cell? ⟨k, 0, none⟩ = some a ∧ W.cell? ⟨k, 1, none⟩ = some b ∧ W.cell? ⟨k, 2, none⟩ = some c) ∧ (W.frozen? ⟨k, 0, none⟩ = false ∧ W.frozen? ⟨k, 1, none⟩ = false ∧ W.frozen? ⟨k, 2, none⟩ = false) := by
  simp [World.cell?, World.frozen?, h]

theorem run_max2 (w : World) (ts : Array TypeId) (t : TypeId) (x y : ByteArray) : (Builtin.max_ ts t #[.string x, .string y]).run Tryd.prog w = .ok (.string (Rg.mx x y)) w := by
  cases h : Op.bytesLess x.toList y.toList <;> simp [Builtin.max_, Builtin.max2, Op.stringOp, asBool, Rg.mx, h]

theorem empty_at {lo hi : ByteArray} {op m : Bool} (h : Rg.emp ⟨lo, hi, op⟩ = m) (w : World) :
    Calls Tryd.prog 71 #[.agg #[.string lo, .string hi, .bool op]] w fun e w' => e = .returned (.bool m) ∧ Below w.heap.size w w' := by
  subst h; exact empty_any lo hi op w

theorem heap_new (w : World) (o : Obj) : (w.alloc o).heap[w.heap.size]? = some o := heap_alloc_new w o

theorem lies {w : World} {k : Nat} {o : Obj} (h : w.heap[k]? = some o) : k < w.heap.size := (Array.getElem?_eq_some_iff.1 h).1

theorem keep {k : Nat} {w1 w2 : World} {o : Obj} (h : w1.heap[k]? = some o) (b : Below w1.heap.size w1 w2) : w2.heap[k]? = some o :=
  (b.block k (Array.getElem?_eq_some_iff.1 h).1).trans h

theorem keepA {k : Nat} {w1 : World} {o p : Obj} (h : w1.heap[k]? = some o) : (w1.alloc p).heap[k]? = some o :=
  (Below.heap_alloc w1 p k (Array.getElem?_eq_some_iff.1 h).1).trans h

theorem two_new {w w1 : World} {o1 o2 : Obj} (b : Below ((w.alloc o1).alloc o2).heap.size ((w.alloc o1).alloc o2) w1) :
    w1.heap[w.heap.size]? = some o1 ∧ w1.heap[w.heap.size + 1]? = some o2 ∧ Below w.heap.size w w1 := by
  have e1 : (w.alloc o1).heap.size = w.heap.size + 1 := by simp
  refine ⟨keep (keepA (heap_new w o1)) b, ?_, bthen (bthen (bnew w o1) (bnew _ o2)) b⟩
  have h := heap_new (w.alloc o1) o2
  rw [e1] at h
  exact keep h b

theorem three_new {w w1 : World} {o1 o2 o3 : Obj} (b : Below (((w.alloc o1).alloc o2).alloc o3).heap.size (((w.alloc o1).alloc o2).alloc o3) w1) :
    w1.heap[w.heap.size]? = some o1 ∧ w1.heap[w.heap.size + 1]? = some o2 ∧ w1.heap[w.heap.size + 1 + 1]? = some o3 ∧ Below w.heap.size w w1 := by
  have e1 : (w.alloc o1).heap.size = w.heap.size + 1 := by simp
  have e2 : ((w.alloc o1).alloc o2).heap.size = w.heap.size + 1 + 1 := by simp
  have h2 := heap_new (w.alloc o1) o2
  have h3 := heap_new ((w.alloc o1).alloc o2) o3
  rw [e1] at h2
  rw [e2] at h3
  exact ⟨keep (keepA (keepA (heap_new w o1))) b, keep (keepA h2) b, keep h3 b, bthen (bthen (bthen (bnew w o1) (bnew _ o2)) (bnew _ o3)) b⟩

theorem meet_some {a b r : Rg} (hA : a.emp = false) (hB : b.emp = false) (h : Rg.both a b = r) (he : r.emp = false) : Rg.meetV (Rg.meet a b) = .tuple #[.agg #[.string r.lo, .string r.hi, .bool r.op], .bool true] := by
  simp [Rg.meet, hA, hB, h, he, Rg.meetV]

theorem meet_none {a b r : Rg} (hA : a.emp = false) (hB : b.emp = false) (h : Rg.both a b = r) (he : r.emp = true) : Rg.meetV (Rg.meet a b) = .tuple #[.agg #[.string ⟨#[]⟩, .string ⟨#[]⟩, .bool false], .bool false] := by
  simp [Rg.meet, hA, hB, h, he, Rg.meetV]

theorem ret_val {u v : Value} (h : v = u) : Ending.returned u = .returned v := by rw [h]


end Go.Proofs.YtlgcdcjhflihiaaDoor
namespace Go.Proofs.YtlgcdcjhflihiaaDoor
open Go.RowKit
/-- Is one of the first n ranges empty? -/
def anyE (T : Nat → Rg) (n : Nat) : Bool := (List.range n).any fun i => (T i).emp

theorem anyE_false {T : Nat → Rg} {n : Nat} (h : ∀ j, j < n → (T j).emp = false) : anyE T n = false := by
  simp only [anyE, List.any_eq_false, List.mem_range]
  intro j hj; simp [h j hj]

theorem anyE_true {T : Nat → Rg} {n j : Nat} (hj : j < n) (h : (T j).emp = true) : anyE T n = true := by
  simp only [anyE, List.any_eq_true, List.mem_range]
  exact ⟨j, hj, h⟩

set_option maxRecDepth 100000 in
set_option maxHeartbeats 2000000 in
theorem idx_any (a : Option Addr) (len cap : Nat) (T : Nat → Rg) (w : World) (h : RgsIn w.heap.size w a len cap T) :
    Calls Tryd.prog 87 #[.slice a len cap, .func (.func 71) #[] #[]] w fun e w' => ∃ i : Int, e = .returned (.int .i64 i) ∧ decide (0 ≤ i) = anyE T len ∧ Below w.heap.size w w' := by
  obtain ⟨hlc, hcm, hh⟩ := h
  go_enter Tryd.func87, Tryd.ntmps87
  go_wp2
  go_loopw [8] (fun i wr => ∃ k : Nat, k ≤ len ∧ i = .int .i64 (k : Int) ∧ Hid (∀ j, j < k → (T j).emp = false) ∧ Below w.heap.size w wr) (fun i _ => len - (intOf i).toNat)
  case atStart => exact ⟨0, Nat.zero_le _, rfl, fun j hj => by omega, Below.refl _ _⟩
  case round =>
    obtain ⟨k, hk, rfl, hall, hnx⟩ := hrel
    by_cases hlt : (k : Int) < (len : Int)
    · rcases hh with hh | ⟨b, off, rfl, hb, hc⟩
      · omega
      · obtain ⟨c0, c1, c2⟩ := hc k (by omega)
        have c0' := (hnx.cell (p := ⟨b, off + k * 3, none⟩) hb).trans c0
        have c1' := (hnx.cell (p := ⟨b, off + k * 3 + 1, none⟩) hb).trans c1
        have c2' := (hnx.cell (p := ⟨b, off + k * 3 + 2, none⟩) hb).trans c2
        clear hc c0 c1 c2
        have hk0 : (0 : Int) ≤ (k : Int) := by omega
        cases he : Rg.emp ⟨(T k).lo, (T k).hi, (T k).op⟩
        · have CE := aside (fun w => empty_at he w)
          have HE := aside (show (T k).emp = false from he)
          clear he
          go_wp2_with fail
          refine (CE.out _).mono ?_
          rintro e w1 ⟨rfl, b1⟩
          have hn2 := hnx.trans (b1.mono hnx.size)
          clear c0' c1' c2' CE b1
          go_wp2
          go_roundw
          case rel => exact ⟨k + 1, by omega, by go_num, fun j hj => by
            by_cases e : j = k
            · rw [e]; exact HE.out
            · exact hall.out j (by omega), hn2⟩
          case measure => simp [intOf]; omega
        · have CE := aside (fun w => empty_at he w)
          have HE := aside (show (T k).emp = true from he)
          clear he
          go_wp2_with fail
          refine (CE.out _).mono ?_
          rintro e w1 ⟨rfl, b1⟩
          have hn2 := hnx.trans (b1.mono hnx.size)
          clear c0' c1' c2' CE b1
          go_wp2
          go_ret
          exact ⟨(k : Int), rfl, by rw [anyE_true (j := k) (by omega) HE.out]; exact decide_eq_true hk0, hn2⟩
    · obtain rfl : len = k := by omega
      go_wp2
      go_ret
      exact ⟨-1, rfl, by rw [anyE_false hall.out]; rfl, hnx⟩

set_option maxRecDepth 100000 in
set_option maxHeartbeats 1000000 in
theorem contains_any (a : Option Addr) (len cap : Nat) (T : Nat → Rg) (w : World) (h : RgsIn w.heap.size w a len cap T) :
    Calls Tryd.prog 70 #[.slice a len cap, .func (.func 71) #[] #[]] w fun e w' => e = .returned (.bool (anyE T len)) ∧ Below w.heap.size w w' := by
  have C := aside (fun w h => idx_any a len cap T w h)
  have H := aside h
  clear h
  go_enter Tryd.func70, Tryd.ntmps70
  go_wp2_with fail
  refine (C.out _ H.out).mono ?_
  rintro e w1 ⟨i, rfl, hi, b1⟩
  have HI := aside hi
  clear hi C H
  go_wp2
  go_ret
  exact ⟨ret_bool HI.out, b1⟩

end Go.Proofs.YtlgcdcjhflihiaaDoor
namespace Go.Proofs.YtlgcdcjhflihiaaDoor
open Go.RowKit Go.Shelf
attribute [local go_sem] Oper.semAt_some
/-- May the second of two neighbours stand behind the first? -/
def okP (x : Rg × Rg) : Bool := !(x.1.op || Op.bytesLess x.2.lo.toList x.1.hi.toList)

/-- Do the first n ranges rise? -/
def rises (T : Nat → Rg) (n : Nat) : Bool := !anyE T n && (upto (fun j => (T j, T (j + 1))) (n - 1)).all okP

theorem cells_kept {W W' : World} {row : Option Nat} {k : Nat} {cs : Array Value} {t : TypeId} {fr : Nat × Nat} (h : W.heap[k]? = some (.cells cs t fr)) (hg : W.grownBy W' row) (hrow : ∀ r, row = some r → ∃ o : Obj, W.heap[r]? = some o ∧ o.isCells = false) :
    W'.heap[k]? = some (.cells cs t fr) := (grownBy_keeps_cells hg hrow h rfl).trans h

theorem RgsIn.up {n₀ n₁ : Nat} {A B : World} (h : Below n₀ A B) (hn : n₀ ≤ n₁) {a : Option Addr} {len cap : Nat} {T : Nat → Rg} (hr : RgsIn n₀ A a len cap T) : RgsIn n₁ B a len cap T := by
  obtain ⟨h1, h2, h3⟩ := hr.below h
  refine ⟨h1, h2, ?_⟩
  rcases h3 with h3 | ⟨blk, off, e, hb, hc⟩
  · exact .inl h3
  · exact .inr ⟨blk, off, e, Nat.lt_of_lt_of_le hb hn, hc⟩

theorem box1_out {W : World} {k : Nat} {a : Value} {t : TypeId} (h : W.heap[k]? = some (.cells #[a] t (0, 0))) : W.cell? ⟨k, 0, none⟩ = some a ∧ W.frozen? ⟨k, 0, none⟩ = false := by
  simp [World.cell?, World.frozen?, h]

theorem rises_no {T : Nat → Rg} {len k : Nat} (hk : k ≤ len - 1) (h : (upto (fun j => (T j, T (j + 1))) k).all okP = false) : rises T len = false := by
  have : (upto (fun j => (T j, T (j + 1))) (len - 1)).all okP = false := by
    rw [Bool.eq_false_iff] at h ⊢
    intro h2
    apply h
    rw [List.all_eq_true] at h2 ⊢
    intro x hx
    apply h2
    simp only [upto, List.mem_map, List.mem_range] at hx ⊢
    obtain ⟨j, hj, e⟩ := hx
    exact ⟨j, by omega, e⟩
  simp [rises, this]

theorem contains_at {a : Option Addr} {len cap : Nat} {T : Nat → Rg} {q : Bool} (hq : anyE T len = q) (w : World) (h : RgsIn w.heap.size w a len cap T) :
    Calls Tryd.prog 70 #[.slice a len cap, .func (.func 71) #[] #[]] w fun e w' => e = .returned (.bool q) ∧ Below w.heap.size w w' := by
  subst hq; exact contains_any a len cap T w h

set_option maxRecDepth 100000 in
set_option maxHeartbeats 4000000 in
theorem rising_in (n : Nat) (hn : 3 ≤ n) (a : Option Addr) (len cap : Nat) (T : Nat → Rg) (w : World) (h : RgsIn w.heap.size w a len cap T) :
    CallsIn Fence.wide n Tryd.prog 46 #[.slice a len cap] w fun e w' => e = .returned (.bool (rises T len)) ∧ Below w.heap.size w w' := by
  have h1 : 1 ≤ n := by omega
  have H := aside h
  clear h
  cases hE : anyE T len
  · refine callsIn_of_wp_marks Tryd.func46 rfl trivial ?_ rfl
    simp only [Tryd.ntmps46, List.size_toArray, List.length_cons, List.length_nil, Nat.reduceAdd, Nat.reduceSub, Array.replicate_succ, Array.replicate_zero, List.push_toArray, List.append_toArray, List.nil_append, List.cons_append]
    gi_wp2
    refine ⟨trivial, ?_⟩
    refine (callsIn_wide.2 (contains_at hE _ (H.out.up (bnew w _) (by simp)))).mono ?_
    rintro e w1 ⟨rfl, b1⟩
    have kR := keep (heap_new w (.cells #[.bool false] 4)) b1
    have b01 := bthen (bnew w (.cells #[.bool false] 4)) b1
    obtain ⟨r0, r1⟩ := box1_out kR
    clear b1
    gi_wp2_with fail
    refine ⟨trivial, ?_⟩
    refine (nb_in (n - 1) _ _ _ _).mono ?_
    rintro e w' ⟨rfl, rfl⟩
    gi_wp2_with fail
    have kB := heap_new w1 (.cells #[.slice a len cap] 47)
    have kR0 := keepA (p := .cells #[.slice a len cap] 47) kR
    have b02 := bthen b01 (bnew w1 (.cells #[.slice a len cap] 47))
    have hsz : (w1.alloc (.cells #[.slice a len cap] 47)).heap.size = w1.heap.size + 1 := by simp
    have hs1 := lies kR
    obtain ⟨W0, hW0⟩ : ∃ W0, w1.alloc (.cells #[.slice a len cap] 47) = W0 := ⟨_, rfl⟩
    rw [hW0] at kB kR0 b02 hsz ⊢
    clear hW0 kR r0 r1
    have hRg : RgsIn (w1.heap.size + 1) W0 a len cap T := H.out.up b02 (by omega)
    refine wpIn_rangeFunc_ownH rfl h1 (gf := 72) (lb := #[.pointer (some ⟨w1.heap.size, 0, none⟩)]) rfl trivial (enters_of Tryd.func72 (by kernel_rfl) rfl)
      (nb_stops (n - 1) (by omega) w1.heap.size (w1.heap.size + 1) a len cap T W0 (by omega) (by omega) (box1_out kB).1 hRg) belowK_t (belowK_b (by omega)) (Below.refl _ _) (fun _ => rfl)
      (fun pre W => (pre.all okP = true ∧ W.heap[w.heap.size]? = some (.cells #[.bool false] 4 (0, 0))) ∧ (Below w.heap.size w W ∧ Below (w1.heap.size + 1) W0 W))
      (fun c pre W => (c = .ret ∧ pre.all okP = false ∧ W.heap[w.heap.size]? = some (.cells #[.bool false] 4 (0, 0))) ∧ Below w.heap.size w W)
      (OwnFrom.and (Own.from (fun s A B row hs hg hr => ⟨hs.1, cells_kept hs.2 hg hr⟩) _) (OwnFrom.and (ownFrom_below (Nat.le_refl _) (by omega)) (ownFrom_below (by omega) (by omega))))
      (fun c => OwnFrom.and (Own.from (fun s A B row hs hg hr => ⟨hs.1, hs.2.1, cells_kept hs.2.2 hg hr⟩) _) (ownFrom_below (Nat.le_refl _) (by omega)))
      ⟨⟨rfl, kR0⟩, b02, Below.refl _ _⟩
      (fun x a' W => ∃ B, (W.heap[B]? = some (.cells #[.string x.1.lo, .string x.1.hi, .bool x.1.op] 35 (0, 0)) ∧ W.heap[B + 1]? = some (.cells #[.string x.2.lo, .string x.2.hi, .bool x.2.op] 35 (0, 0))) ∧ a' = { tmps := #[.slice a len cap, undef, .pointer (some ⟨w.heap.size, 0, none⟩), .pointer (some ⟨B, 0, none⟩), .pointer (some ⟨B + 1, 0, none⟩), .slice a len cap, .bool false, .slice a len cap, .func (.func 72) #[] #[.pointer (some ⟨w1.heap.size, 0, none⟩)], .agg #[.string x.1.lo, .string x.1.hi, .bool x.1.op], .agg #[.string x.2.lo, .string x.2.hi, .bool x.2.op], undef, undef, undef, undef, undef, undef, undef, undef, undef], defers := [] })
      (fun x a' => Own.from (fun s A B row hs hg hr => by obtain ⟨k, ⟨h1, h2⟩, h3⟩ := hs; exact ⟨k, ⟨cells_kept h1 hg hr, cells_kept h2 hg hr⟩, h3⟩) _)
      ?assign ?body ?done ?stop
    case assign =>
      rintro l pre x W K ⟨⟨hp, hR⟩, hB, hB2⟩ hK
      dsimp only [pairV]
      gi_wp2
      have hW1 : W0.heap.size ≤ W.heap.size := hB2.size
      have k2 := heap_new (W.alloc (.cells #[.string x.1.lo, .string x.1.hi, .bool x.1.op] 35)) (.cells #[.string x.2.lo, .string x.2.hi, .bool x.2.op] 35)
      rw [World.size_alloc] at k2
      exact hK _ _ (((KeepsOthers.alloc _ _).trans (KeepsOthers.alloc _ _)).from _) (((Below.refl _ W).alloc (by omega) _).alloc (by simp; omega) _) ⟨⟨hp, keepA (keepA hR)⟩, (hB.alloc hB.size _).alloc (by have := hB.size; simp; omega) _, (hB2.alloc (by omega) _).alloc (by simp; omega) _⟩ ⟨W.heap.size, ⟨keepA (heap_new W _), k2⟩, rfl⟩
    case body =>
      rintro l pre x a' W hl ⟨r, hr⟩ ⟨⟨hp, hR⟩, hB, hB2⟩ ⟨B, ⟨k1, k2⟩, rfl⟩ hlt
      obtain ⟨⟨c0, c1, c2⟩, -⟩ := box_out k1
      obtain ⟨⟨d0, d1, d2⟩, -⟩ := box_out k2
      obtain ⟨r0, r1⟩ := box1_out hR
      obtain ⟨⟨lo1, hi1, op1⟩, ⟨lo2, hi2, op2⟩⟩ := x
      dsimp only at c0 c1 c2 d0 d1 d2 ⊢
      clear k1 k2 hr hlt
      cases op1
      · cases hl2 : Op.bytesLess lo2.toList hi1.toList
        · gi_wp2
          exact ⟨KeepsFrom.refl _ _, Below.refl _ _, ⟨by rw [List.all_append, hp]; simp [okP, hl2], hR⟩, hB, hB2⟩
        · gi_wp2
          exact ⟨(KeepsOthers.setCell _ _ _).from _, ⟨rfl, by rw [List.all_append]; simp [okP, hl2], (show Boxed W w.heap.size 4 (.bool false) from hR).set _⟩, hB.setCell (p := ⟨w.heap.size, 0, none⟩) (Nat.le_refl _) _⟩
      · gi_wp2
        exact ⟨(KeepsOthers.setCell _ _ _).from _, ⟨rfl, by rw [List.all_append]; simp [okP], (show Boxed W w.heap.size 4 (.bool false) from hR).set _⟩, hB.setCell (p := ⟨w.heap.size, 0, none⟩) (Nat.le_refl _) _⟩
    case done =>
      rintro D ys W hD rfl ⟨⟨hp, hR⟩, hB, hB2⟩ hK
      obtain ⟨r0, r1⟩ := box1_out hR
      gi_wp2
      have hK' := (KeepsOthers.setCell W ⟨w.heap.size, 0, none⟩ (.bool true)).same D _ hK rfl
      refine ⟨by simp, .inl ⟨_, _, rfl, run_takeDeferred hK', ?_⟩⟩
      have hc5 := cell_kept (World.cell?_setCell_same' W ⟨w.heap.size, 0, none⟩ (.bool true) (by rw [r0]; rfl)) (grownBy_putObj' _ D (.deferred none)) (fun r e => by cases e; exact ⟨_, hK', rfl⟩)
      refine ⟨.bool true, ?_, by rw [show rises T len = true from by simp only [rises, hE, hp]; rfl], (hB.setCell (p := ⟨w.heap.size, 0, none⟩) (by simp) _).trans (belowK_b (w := w) (Nat.le_refl _) _ D _ _ (by omega) hK' rfl rfl)⟩
      simp [results, Tryd.f46, go_sem, hc5]
    case stop =>
      rintro D c pre W hD ⟨k, hk, rfl⟩ ⟨⟨rfl, hp, hR⟩, hB⟩ hK
      obtain ⟨r0, r1⟩ := box1_out hR
      gi_wp2
      refine ⟨by simp, .inl ⟨_, _, rfl, run_takeDeferred hK, ?_⟩⟩
      have hc5 := cell_kept r0 (grownBy_putObj' _ D (.deferred none)) (fun r e => by cases e; exact ⟨_, hK, rfl⟩)
      refine ⟨.bool false, ?_, by rw [show rises T len = false from rises_no hk hp], hB.trans (belowK_b (w := w) (Nat.le_refl _) W D _ _ (by omega) hK rfl rfl)⟩
      simp [results, Tryd.f46, go_sem, hc5]
  · refine callsIn_of_wp_marks Tryd.func46 rfl trivial ?_ rfl
    simp only [Tryd.ntmps46, List.size_toArray, List.length_cons, List.length_nil, Nat.reduceAdd, Nat.reduceSub, Array.replicate_succ, Array.replicate_zero, List.push_toArray, List.append_toArray, List.nil_append, List.cons_append]
    gi_wp2
    refine ⟨trivial, ?_⟩
    refine (callsIn_wide.2 (contains_at hE _ (H.out.up (bnew w _) (by simp)))).mono ?_
    rintro e w1 ⟨rfl, b1⟩
    have kR := keep (heap_new w (.cells #[.bool false] 4)) b1
    have b01 := bthen (bnew w (.cells #[.bool false] 4)) b1
    obtain ⟨r0, r1⟩ := box1_out kR
    clear b1
    gi_wp2_with fail
    have r2 := World.cell?_setCell_same' w1 ⟨w.heap.size, 0, none⟩ (.bool false) (by rw [r0]; rfl)
    refine ⟨.bool false, by simp [results, Tryd.f46, go_sem, r2], ?_, b01.setCell (p := ⟨w.heap.size, 0, none⟩) (Nat.le_refl _) _⟩
    rw [show rises T len = false from by simp [rises, hE]]

theorem rising_any (a : Option Addr) (len cap : Nat) (T : Nat → Rg) (w : World) (h : RgsIn w.heap.size w a len cap T) :
    Calls Tryd.prog 46 #[.slice a len cap] w fun e w' => e = .returned (.bool (rises T len)) ∧ Below w.heap.size w w' :=
  (callsIn_wide (n := 3)).1 (rising_in 3 (Nat.le_refl _) a len cap T w h)

end Go.Proofs.YtlgcdcjhflihiaaDoor
namespace Go.Proofs.YtlgcdcjhflihiaaDoor
open Go.RowKit
/-- The texts S 0, S 1 .. lie one behind the other, below n₀. -/
def StrsIn (n₀ : Nat) (w : World) (a : Option Addr) (len cap : Nat) (S : Nat → ByteArray) : Prop :=
  len ≤ cap ∧ len * 16 ≤ 281474976710656 ∧ (len = 0 ∨ ∃ blk off, a = some ⟨blk, off, none⟩ ∧ blk < n₀ ∧ ∀ i, i < len → w.cell? ⟨blk, off + i, none⟩ = some (.string (S i)))

theorem StrsIn.up {n₀ n₁ : Nat} {A B : World} (h : Below n₀ A B) (hn : n₀ ≤ n₁) {a : Option Addr} {len cap : Nat} {S : Nat → ByteArray} (hr : StrsIn n₀ A a len cap S) : StrsIn n₁ B a len cap S := by
  obtain ⟨h1, h2, h3⟩ := hr
  refine ⟨h1, h2, ?_⟩
  rcases h3 with h3 | ⟨blk, off, e, hb, hc⟩
  · exact .inl h3
  · exact .inr ⟨blk, off, e, Nat.lt_of_lt_of_le hb hn, fun i hi => (h.cell (p := ⟨blk, off + i, none⟩) hb).trans (hc i hi)⟩

/-- The cells of the ranges f 0, f 1 .. -/
def rgCells (f : Nat → Rg) : Nat → List Value
  | 0 => []
  | n + 1 => rgCells f n ++ [.string (f n).lo, .string (f n).hi, .bool (f n).op]

theorem rgCells_length (f : Nat → Rg) (n : Nat) : (rgCells f n).length = n * 3 := by
  induction n with
  | zero => rfl
  | succ n ih => simp only [rgCells, List.length_append, ih, List.length_cons, List.length_nil]; omega

theorem rgCells_congr {f g : Nat → Rg} : ∀ {n : Nat}, (∀ i, i < n → f i = g i) → rgCells f n = rgCells g n
  | 0, _ => rfl
  | n + 1, h => by simp only [rgCells]; rw [rgCells_congr (n := n) (fun i hi => h i (by omega)), h n (by omega)]

theorem rgCells_at (f : Nat → Rg) : ∀ (n i : Nat), i < n → (rgCells f n)[i * 3]? = some (.string (f i).lo) ∧ (rgCells f n)[i * 3 + 1]? = some (.string (f i).hi) ∧ (rgCells f n)[i * 3 + 2]? = some (.bool (f i).op)
  | n + 1, i, h => by
    have hl := rgCells_length f n
    simp only [rgCells]
    by_cases e : i = n
    · subst e
      refine ⟨?_, ?_, ?_⟩
      · rw [List.getElem?_append_right (by omega), hl, Nat.sub_self]; rfl
      · rw [List.getElem?_append_right (by omega), hl, show i * 3 + 1 - i * 3 = 1 from by omega]; rfl
      · rw [List.getElem?_append_right (by omega), hl, show i * 3 + 2 - i * 3 = 2 from by omega]; rfl
    · obtain ⟨h0, h1, h2⟩ := rgCells_at f n i (by omega)
      refine ⟨?_, ?_, ?_⟩
      · rw [List.getElem?_append_left (by omega)]; exact h0
      · rw [List.getElem?_append_left (by omega)]; exact h1
      · rw [List.getElem?_append_left (by omega)]; exact h2

/-- Where piece j begins. -/
def cutLo (lo : ByteArray) (S : Nat → ByteArray) : Nat → ByteArray
  | 0 => lo
  | j + 1 => S j

/-- The pieces of a range at the first len borders. -/
def piece (r : Rg) (S : Nat → ByteArray) (len j : Nat) : Rg := if j < len then ⟨cutLo r.lo S j, S j, false⟩ else ⟨cutLo r.lo S j, r.hi, r.op⟩

theorem info23 : (Tryd.prog.info? 35).map (fun i => (i.zero, i.size, i.bytes)) = some (some (.agg #[.string ⟨#[]⟩, .string ⟨#[]⟩, .bool false]), 3, 40) := by kernel_rfl

theorem set_box0 {W : World} {k : Nat} {a b c : Value} {t : TypeId} (h : W.heap[k]? = some (.cells #[a, b, c] t (0, 0))) (v : Value) : (W.setCell ⟨k, 0, none⟩ v).heap[k]? = some (.cells #[v, b, c] t (0, 0)) := by
  simp only [World.setCell]
  rw [Array.getElem?_modify]
  simp [h]

/-- What a row of ranges that the call owns is to those who read it. -/
theorem rgs_of_row {w : World} {B n₀ g n cap : Nat} {f : Nat → Rg} (h : w.ownsRow B 35 3 (.slice (some ⟨g, 0, none⟩) n cap) n (rgCells f n)) (hg : g < n₀) (hb : n * 40 ≤ 281474976710656) : RgsIn n₀ w (some ⟨g, 0, none⟩) n cap f := by
  have hcap : n ≤ cap := by
    rcases h.2 with ⟨h1, -⟩ | ⟨g', cap', cur, h1, -, -, h2, -⟩
    · cases h1
    · cases h1; exact h2
  refine ⟨hcap, hb, .inr ⟨g, 0, rfl, hg, fun i hi => ?_⟩⟩
  obtain ⟨h0, h1, h2⟩ := rgCells_at f n i hi
  have c := fun j u hu => h.cells (g := g) rfl j u hu
  have e : ∀ j, (⟨g, 0, none⟩ : Addr).add j = ⟨g, 0 + j, none⟩ := fun j => by unfold Addr.add; split <;> simp_all
  have c0 := c _ _ h0; have c1 := c _ _ h1; have c2 := c _ _ h2
  rw [e] at c0 c1 c2
  exact ⟨c0, by rw [Nat.add_assoc]; exact c1, by rw [Nat.add_assoc]; exact c2⟩

/-- One round of cut, behind its append. -/
theorem rel_cut {w wr w1 : World} {o : Obj} {u v : Value} {lo hi : ByteArray} {op : Bool} {S : Nat → ByteArray} {k : Nat} (hnx : Below w.heap.size w wr)
    (hbox : wr.heap[w.heap.size]? = some (.cells #[.string (cutLo lo S k), .string hi, .bool op] 35 (0, 0)))
    (hown : wr.ownsRow (w.heap.size + 1) 35 3 u k (rgCells (fun j => ⟨cutLo lo S j, S j, false⟩) k)) (hgrow : (wr.alloc o).grownBy w1 u.ownBlock)
    (hown1 : w1.ownsRow (w.heap.size + 1) 35 3 v (k + 1) (rgCells (fun j => ⟨cutLo lo S j, S j, false⟩) k ++ [.string (cutLo lo S k), .string (S k), .bool false])) :
    w1.heap[w.heap.size]? = some (.cells #[.string (cutLo lo S k), .string hi, .bool op] 35 (0, 0)) ∧ w1.ownsRow (w.heap.size + 1) 35 3 v (k + 1) (rgCells (fun j => ⟨cutLo lo S j, S j, false⟩) (k + 1)) ∧ Below w.heap.size w w1 := by
  have hlt := (Array.getElem?_eq_some_iff.1 hbox).1
  refine ⟨?_, hown1, (hnx.alloc hnx.size o).grown hgrow (by simp; omega) (fun j hj => by have := (hown.lt j hj).1; omega)⟩
  rw [hgrow.block w.heap.size (by simp; omega) (fun e => by have := (hown.lt w.heap.size e.symm).1; omega)]
  exact keepA hbox

set_option maxHeartbeats 3200000 in
set_option maxRecDepth 100000 in
theorem cut_any (lo hi : ByteArray) (op : Bool) (a : Option Addr) (len cap : Nat) (S : Nat → ByteArray) (w : World) (h : StrsIn w.heap.size w a len cap S) (hroom : (len + 1) * 40 ≤ 140737488355328) :
    Calls Tryd.prog 85 #[.agg #[.string lo, .string hi, .bool op], .slice a len cap] w fun e w' => ∃ g cp, e = .returned (.slice (some ⟨g, 0, none⟩) (len + 1) cp) ∧ w'.ownsRow (w.heap.size + 1) 35 3 (.slice (some ⟨g, 0, none⟩) (len + 1) cp) (len + 1) (rgCells (piece ⟨lo, hi, op⟩ S len) (len + 1)) ∧ g < w'.heap.size ∧ Below w.heap.size w w' := by
  obtain ⟨i0, hi0, hz0, hz1, hz2⟩ := info_parts info23
  obtain ⟨hlc, hl16, hh⟩ := h
  go_enter Tryd.func85, Tryd.ntmps85
  go_wp2_with (at_make; refine wpList_make_own _ rfl _ _ 47 rfl (w.heap.size + 1) 35 i0 (.agg #[.string ⟨#[]⟩, .string ⟨#[]⟩, .bool false]) 3 Tryd.underlying47 hi0 hz0 hz1 _ _ _ (len + 1) rfl rfl ?b1 ?b2 ?b3 (by simp) ?_)
  case b1 => omega
  case b2 => rw [hz2]; omega
  case b3 => unfold maxLen; omega
  intro w0 hown0 hgrow0
  have hk0 : w0.heap[w.heap.size]? = some (.cells #[.string lo, .string hi, .bool op] 35 (0, 0)) := (hgrow0.block w.heap.size (by simp) (fun e => by cases e)).trans (heap_new w _)
  have hb0 : Below w.heap.size w w0 := (bnew w _).grown hgrow0 (by simp) (fun k e => by cases e)
  clear hgrow0
  go_wp2
  go_loopw [5, 14] (fun v i wr => ∃ k : Nat, k ≤ len ∧ i = .int .i64 (k : Int) ∧ wr.heap[w.heap.size]? = some (.cells #[.string (cutLo lo S k), .string hi, .bool op] 35 (0, 0)) ∧ wr.ownsRow (w.heap.size + 1) 35 3 v k (rgCells (fun j => ⟨cutLo lo S j, S j, false⟩) k) ∧ Below w.heap.size w wr)
    (fun _ i _ => len - (intOf i).toNat)
  case atStart => exact ⟨0, Nat.zero_le _, rfl, hk0, hown0, hb0⟩
  case round =>
    obtain ⟨k, hk, rfl, hbox, hown, hnx⟩ := hrel
    obtain ⟨⟨q0, q1, q2⟩, f0, f1, f2⟩ := box_out hbox
    have HB := aside hbox
    have hsz := hnx.size
    have hbl := lies hbox
    clear hbox hk0 hown0 hb0
    by_cases hlt : (k : Int) < (len : Int)
    · rcases hh with hh | ⟨b, off, rfl, hb, hc⟩
      · omega
      · have c0 := (hnx.cell (p := ⟨b, off + k, none⟩) hb).trans (hc k (by omega))
        have hk0 : (0 : Int) ≤ (k : Int) := by omega
        clear hc
        go_wp2_with (at_builtin; refine wpList_append_lies _ rfl _ _ _ rfl (w.heap.size + 1) 35 i0 (.agg #[.string ⟨#[]⟩, .string ⟨#[]⟩, .bool false]) 3 40 Tryd.underlying47 hi0 hz0 hz1 hz2 rfl (by decide) _ _ _ (by rfl) (hown.alloc _) ⟨wr.heap.size, 0, none⟩ 1 1 [.string (cutLo lo S k), .string (S k), .bool false] (by rfl) (by rfl) (World.news_of_block (cs := #[.string (cutLo lo S k), .string (S k), .bool false]) (t := 35) (fr := (0, 0)) (heap_alloc_new wr _)) (by simp [Value.oneCell']) (by omega) (by unfold maxLen; omega) (by omega) (by have := hnx.size; simp; omega) (wr.heap.size + 1) (by simp) ?_; intro g cp w1 hown1 hgrow hat hlt1; refine Hid.out ?_)
        refine aside ?_
        have Q := rel_cut hnx HB.out hown hgrow hown1
        obtain ⟨kB, kO, kN⟩ := Q
        obtain ⟨⟨q0', q1', q2'⟩, f0', f1', f2'⟩ := box_out kB
        have KB := aside kB; have KO := aside kO
        clear hown hown1 hgrow hnx hat q0 q1 q2 f0 f1 f2 c0 kB kO
        go_wp2
        go_roundw
        case rel => exact ⟨k + 1, by omega, by go_num, set_box0 KB.out _, ownsRow_setCell_below KO.out (by simp) _, kN.setCell (p := ⟨w.heap.size, 0, none⟩) (Nat.le_refl _) _⟩
        case measure => simp [intOf]; omega
    · obtain rfl : len = k := by omega
      go_wp2_with (at_builtin; refine wpList_append_lies _ rfl _ _ _ rfl (w.heap.size + 1) 35 i0 (.agg #[.string ⟨#[]⟩, .string ⟨#[]⟩, .bool false]) 3 40 Tryd.underlying47 hi0 hz0 hz1 hz2 rfl (by decide) _ _ _ (by rfl) (hown.alloc _) ⟨wr.heap.size, 0, none⟩ 1 1 [.string (cutLo lo S len), .string hi, .bool op] (by rfl) (by rfl) (World.news_of_block (cs := #[.string (cutLo lo S len), .string hi, .bool op]) (t := 35) (fr := (0, 0)) (heap_alloc_new wr _)) (by simp [Value.oneCell']) (by omega) (by unfold maxLen; omega) (by omega) (by have := hnx.size; simp; omega) (wr.heap.size + 1) (by simp) ?_; intro g cp w1 hown1 hgrow hat hlt1; refine Hid.out ?_)
      refine aside ?_
      go_wp2
      go_ret
      refine ⟨g, cp, rfl, ?_, hlt1, (hnx.alloc hnx.size _).grown hgrow (by simp; omega) (fun j hj => by have := (hown.lt j hj).1; omega)⟩
      rw [show rgCells (piece ⟨lo, hi, op⟩ S len) (len + 1) = rgCells (fun j => ⟨cutLo lo S j, S j, false⟩) len ++ [.string (cutLo lo S len), .string hi, .bool op] from by
        simp only [rgCells]
        rw [rgCells_congr (f := piece ⟨lo, hi, op⟩ S len) (g := fun j => ⟨cutLo lo S j, S j, false⟩) (fun i hi => by simp [piece, hi])]
        simp [piece]]
      exact hown1

end Go.Proofs.YtlgcdcjhflihiaaDoor
namespace Go.Proofs.YtlgcdcjhflihiaaDoor
open Go.RowKit
theorem cell_on {W W' : World} {p : Addr} {v : Value} (h : W.cell? p = some v) (b : Below W.heap.size W W') : W'.cell? p = some v :=
  (b.cell (World.block_lt_of_cell? W _ h)).trans h

theorem row_below {w w' : World} {base N : Nat} {e : TypeId} {size g n cap : Nat} {xs : List Value} (h : w.ownsRow base e size (.slice (some ⟨g, 0, none⟩) n cap) n xs) (hb : Below N w w') (hg : g < N) : w'.ownsRow base e size (.slice (some ⟨g, 0, none⟩) n cap) n xs := by
  refine ⟨h.1, ?_⟩
  rcases h.2 with ⟨h1, -⟩ | ⟨g', cap', cur, h1, h2, h3, h4⟩
  · cases h1
  · cases h1
    exact .inr ⟨g, cap, cur, rfl, h2, (hb.block g hg).trans h3, h4⟩

theorem row_base {w : World} {base base' : Nat} {e : TypeId} {size g n cap : Nat} {xs : List Value} (h : w.ownsRow base e size (.slice (some ⟨g, 0, none⟩) n cap) n xs) (hb : base' ≤ base) : w.ownsRow base' e size (.slice (some ⟨g, 0, none⟩) n cap) n xs := by
  refine ⟨h.1, ?_⟩
  rcases h.2 with ⟨h1, -⟩ | ⟨g', cap', cur, h1, h2, h3, h4⟩
  · cases h1
  · exact .inr ⟨g', cap', cur, h1, Nat.le_trans hb h2, h3, h4⟩

theorem cut_at {lo hi : ByteArray} {op : Bool} {a : Option Addr} {len cap : Nat} {S : Nat → ByteArray} (hroom : (len + 1) * 40 ≤ 140737488355328) (w : World) (h : StrsIn w.heap.size w a len cap S) :
    Calls Tryd.prog 85 #[.agg #[.string lo, .string hi, .bool op], .slice a len cap] w fun e w' => ∃ g cp, e = .returned (.slice (some ⟨g, 0, none⟩) (len + 1) cp) ∧ w'.ownsRow (w.heap.size + 1) 35 3 (.slice (some ⟨g, 0, none⟩) (len + 1) cp) (len + 1) (rgCells (piece ⟨lo, hi, op⟩ S len) (len + 1)) ∧ g < w'.heap.size ∧ Below w.heap.size w w' :=
  cut_any lo hi op a len cap S w h hroom

set_option maxHeartbeats 1600000 in
theorem split_bad (lo hi : ByteArray) (op : Bool) (a : Option Addr) (len cap : Nat) (c : Int) (w : World) (hc : Rg.chk ⟨lo, hi, op⟩ = c) (_hne : (c != 0) = true) (_hnz : ¬ c = 0) :
    Calls Tryd.prog 63 #[.agg #[.string lo, .string hi, .bool op], .slice a len cap] w fun e w' => e = .returned (.tuple #[.slice none 0 0, .int .i64 c]) ∧ Below w.heap.size w w' := by
  have C := aside (fun w => check_at hc w)
  clear hc
  go_enter Tryd.func63, Tryd.ntmps63
  go_wp2_with fail
  refine (C.out _).mono ?_
  rintro e w1 ⟨rfl, b1⟩
  go_wp2
  go_ret2
  exact ⟨rfl, bthen (bnew w _) b1⟩

theorem rising_at {a : Option Addr} {len cap : Nat} {T : Nat → Rg} {q : Bool} (hq : rises T len = q) (w : World) (h : RgsIn w.heap.size w a len cap T) :
    Calls Tryd.prog 46 #[.slice a len cap] w fun e w' => e = .returned (.bool q) ∧ Below w.heap.size w w' := by
  subst hq; exact rising_any a len cap T w h

set_option maxHeartbeats 1600000 in
theorem split_no (lo hi : ByteArray) (op : Bool) (a : Option Addr) (len cap : Nat) (S : Nat → ByteArray) (w : World) (hm : Rg.may ⟨lo, hi, op⟩ = true) (h : StrsIn w.heap.size w a len cap S) (hroom : (len + 1) * 40 ≤ 140737488355328) (hlen : 0 < len)
    (hq : rises (piece ⟨lo, hi, op⟩ S len) (len + 1) = false) :
    Calls Tryd.prog 63 #[.agg #[.string lo, .string hi, .bool op], .slice a len cap] w fun e w' =>
      e = .returned (.tuple #[.slice none 0 0, .int .i64 22]) ∧ Below w.heap.size w w' := by
  have C := aside (fun w => check_at (may_chk hm) w)
  have H := aside h
  have hl0 : (0 : Int) < (len : Int) := by omega
  clear hm h
  go_enter Tryd.func63, Tryd.ntmps63
  go_wp2_with fail
  refine (C.out _).mono ?_
  rintro e w1 ⟨rfl, b1⟩
  obtain ⟨q0, q1, q2⟩ := box3 b1
  have b01 := bthen (bnew w (.cells #[.string lo, .string hi, .bool op] 35)) b1
  clear b1
  go_wp2_with fail
  refine (cut_at hroom _ (H.out.up b01 b01.size)).mono ?_
  rintro e w2 ⟨g, cp, rfl, hown, hg, b2⟩
  have OW := aside hown
  have HQ := aside hq
  have b02 := bthen b01 b2
  have RR := aside (rgs_of_row hown hg (by omega))
  clear hown q0 q1 q2 hq
  go_wp2_with fail
  refine (rising_at HQ.out _ RR.out).mono ?_
  rintro e w3 ⟨rfl, b3⟩
  have b03 := bthen b02 b3
  clear OW b3 RR
  go_wp2
  go_ret2
  exact ⟨rfl, b03⟩

set_option maxHeartbeats 1600000 in
theorem split_yes (lo hi : ByteArray) (op : Bool) (a : Option Addr) (len cap : Nat) (S : Nat → ByteArray) (w : World) (hm : Rg.may ⟨lo, hi, op⟩ = true) (h : StrsIn w.heap.size w a len cap S) (hroom : (len + 1) * 40 ≤ 140737488355328) (hlen : 0 < len)
    (hq : rises (piece ⟨lo, hi, op⟩ S len) (len + 1) = true) :
    Calls Tryd.prog 63 #[.agg #[.string lo, .string hi, .bool op], .slice a len cap] w fun e w' =>
      ∃ g cp, e = .returned (.tuple #[.slice (some ⟨g, 0, none⟩) (len + 1) cp, .int .i64 0]) ∧ w'.ownsRow w.heap.size 35 3 (.slice (some ⟨g, 0, none⟩) (len + 1) cp) (len + 1) (rgCells (piece ⟨lo, hi, op⟩ S len) (len + 1)) ∧ g < w'.heap.size ∧ Below w.heap.size w w' := by
  have C := aside (fun w => check_at (may_chk hm) w)
  have H := aside h
  have hl0 : (0 : Int) < (len : Int) := by omega
  clear hm h
  go_enter Tryd.func63, Tryd.ntmps63
  go_wp2_with fail
  refine (C.out _).mono ?_
  rintro e w1 ⟨rfl, b1⟩
  obtain ⟨q0, q1, q2⟩ := box3 b1
  have b01 := bthen (bnew w (.cells #[.string lo, .string hi, .bool op] 35)) b1
  clear b1
  go_wp2_with fail
  refine (cut_at hroom _ (H.out.up b01 b01.size)).mono ?_
  rintro e w2 ⟨g, cp, rfl, hown, hg, b2⟩
  have OW := aside hown
  have HQ := aside hq
  have b02 := bthen b01 b2
  have RR := aside (rgs_of_row hown hg (by omega))
  clear hown q0 q1 q2 hq
  go_wp2_with fail
  refine (rising_at HQ.out _ RR.out).mono ?_
  rintro e w3 ⟨rfl, b3⟩
  have b03 := bthen b02 b3
  have OW3 := aside (row_base (row_below OW.out b3 hg) (Nat.le_trans b01.size (Nat.le_succ _)))
  have hg3 := Nat.lt_of_lt_of_le hg b3.size
  clear OW b3 RR
  go_wp2
  go_ret2
  exact ⟨g, cp, rfl, OW3.out, hg3, b03⟩

set_option maxHeartbeats 1600000 in
theorem split_none (lo hi : ByteArray) (op : Bool) (a : Option Addr) (cap : Nat) (w : World) (hm : Rg.may ⟨lo, hi, op⟩ = true) :
    Calls Tryd.prog 63 #[.agg #[.string lo, .string hi, .bool op], .slice a 0 cap] w fun e w' =>
      ∃ g cp, e = .returned (.tuple #[.slice (some ⟨g, 0, none⟩) 1 cp, .int .i64 0]) ∧ w'.ownsRow w.heap.size 35 3 (.slice (some ⟨g, 0, none⟩) 1 cp) 1 (rgCells (fun _ => ⟨lo, hi, op⟩) 1) ∧ g < w'.heap.size ∧ Below w.heap.size w w' := by
  have C := aside (fun w => check_at (may_chk hm) w)
  have H : Hid (∀ w : World, StrsIn w.heap.size w a 0 cap (fun _ => ByteArray.empty)) := aside (fun w => ⟨Nat.zero_le _, by omega, .inl rfl⟩)
  clear hm
  go_enter Tryd.func63, Tryd.ntmps63
  go_wp2_with fail
  refine (C.out _).mono ?_
  rintro e w1 ⟨rfl, b1⟩
  obtain ⟨q0, q1, q2⟩ := box3 b1
  have b01 := bthen (bnew w (.cells #[.string lo, .string hi, .bool op] 35)) b1
  clear b1
  go_wp2_with fail
  refine (cut_at (by omega) _ (H.out _)).mono ?_
  rintro e w2 ⟨g, cp, rfl, hown, hg, b2⟩
  have OW := aside (row_base hown (Nat.le_trans b01.size (Nat.le_succ _)))
  have b02 := bthen b01 b2
  clear hown q0 q1 q2
  go_wp2
  go_ret2
  exact ⟨g, cp, rfl, OW.out, hg, b02⟩

end Go.Proofs.YtlgcdcjhflihiaaDoor
namespace Go.Proofs.YtlgcdcjhflihiaaDoor
open Go.RowKit Go.Shelf
attribute [local go_sem] Oper.semAt_some
/-- Does the second of two neighbours begin where the first one ends? -/
def joinP (x : Rg × Rg) : Bool := x.2.lo.toList == x.1.hi.toList

/-- Do two ranges end alike? -/
def endAl (a b : Rg) : Bool := (a.op && b.op) || (!a.op && (!b.op && (a.hi.toList == b.hi.toList)))

/-- Do the first n ranges tile another one? -/
def tiles (T : Nat → Rg) (n : Nat) (r : Rg) : Bool := decide (0 < n) && (rises T n && ((upto (fun j => (T j, T (j + 1))) (n - 1)).all joinP && (((T 0).lo.toList == r.lo.toList) && endAl (T (n - 1)) r)))

set_option maxHeartbeats 800000 in
theorem endAlike_any (alo ahi blo bhi : ByteArray) (aop bop : Bool) (w : World) :
    Calls Tryd.prog 48 #[.agg #[.string alo, .string ahi, .bool aop], .agg #[.string blo, .string bhi, .bool bop]] w fun e w' => e = .returned (.bool (endAl ⟨alo, ahi, aop⟩ ⟨blo, bhi, bop⟩)) ∧ Below w.heap.size w w' := by
  cases aop <;> cases bop <;> cases h : (ahi.toList == bhi.toList)
  all_goals
    go_enter Tryd.func48, Tryd.ntmps48
    go_wp2
    go_ret
    exact ⟨ret_bool (by simp only [endAl, h]; rfl), bthen (bnew w _) (bnew _ _)⟩

theorem endAlike_at {alo ahi blo bhi : ByteArray} {aop bop q : Bool} (h : endAl ⟨alo, ahi, aop⟩ ⟨blo, bhi, bop⟩ = q) (w : World) :
    Calls Tryd.prog 48 #[.agg #[.string alo, .string ahi, .bool aop], .agg #[.string blo, .string bhi, .bool bop]] w fun e w' => e = .returned (.bool q) ∧ Below w.heap.size w w' := by
  subst h; exact endAlike_any alo ahi blo bhi aop bop w

theorem joins_no {T : Nat → Rg} {n k : Nat} {r : Rg} (hk : k ≤ n - 1) (h : (upto (fun j => (T j, T (j + 1))) k).all joinP = false) : tiles T n r = false := by
  have : (upto (fun j => (T j, T (j + 1))) (n - 1)).all joinP = false := by
    rw [Bool.eq_false_iff] at h ⊢
    intro h2
    apply h
    rw [List.all_eq_true] at h2 ⊢
    intro x hx
    apply h2
    simp only [upto, List.mem_map, List.mem_range] at hx ⊢
    obtain ⟨j, hj, e⟩ := hx
    exact ⟨j, by omega, e⟩
  simp [tiles, this]

set_option maxRecDepth 100000 in
set_option maxHeartbeats 1000000 in
theorem tile_none (k : Nat) (a : Option Addr) (cap : Nat) (T : Nat → Rg) (rlo rhi : ByteArray) (rop : Bool) (w : World) :
    CallsIn Fence.wide k Tryd.prog 28 #[.slice a 0 cap, .agg #[.string rlo, .string rhi, .bool rop]] w fun e w' => e = .returned (.bool (tiles T 0 ⟨rlo, rhi, rop⟩)) ∧ Below w.heap.size w w' := by
  refine callsIn_of_wp_marks Tryd.func28 rfl trivial ?_ rfl
  simp only [Tryd.ntmps28, List.size_toArray, List.length_cons, List.length_nil, Nat.reduceAdd, Nat.reduceSub, Array.replicate_succ, Array.replicate_zero, List.push_toArray, List.append_toArray, List.nil_append, List.cons_append]
  gi_wp2_with fail
  refine ⟨trivial, ?_⟩
  gi_wp2_with fail
  have kR := heap_new (w.alloc (.cells #[.string rlo, .string rhi, .bool rop] 35)) (.cells #[.bool false] 4)
  rw [World.size_alloc] at kR
  obtain ⟨r0, r1⟩ := box1_out kR
  have b01 := bthen (bnew w (.cells #[.string rlo, .string rhi, .bool rop] 35)) (bnew _ (.cells #[.bool false] 4))
  refine ⟨.bool false, by simp [results, Tryd.f28, go_sem], rfl, b01⟩

theorem tile_keep {X X' : World} {p0 p1 p2 p3 p4 p5 p6 : Addr} {v0 v1 v2 v3 v4 v5 v6 : Value} (h : X.cell? p0 = some v0 ∧ X.cell? p1 = some v1 ∧ X.cell? p2 = some v2 ∧ X.cell? p3 = some v3 ∧ X.cell? p4 = some v4 ∧ X.cell? p5 = some v5 ∧ X.cell? p6 = some v6) (bb : Below X.heap.size X X') :
    X'.cell? p0 = some v0 ∧ X'.cell? p1 = some v1 ∧ X'.cell? p2 = some v2 ∧ X'.cell? p3 = some v3 ∧ X'.cell? p4 = some v4 ∧ X'.cell? p5 = some v5 ∧ X'.cell? p6 = some v6 := by
  obtain ⟨h0, h1, h2, h3, h4, h5, h6⟩ := h
  exact ⟨cell_on h0 bb, cell_on h1 bb, cell_on h2 bb, cell_on h3 bb, cell_on h4 bb, cell_on h5 bb, cell_on h6 bb⟩

theorem tile_set {X : World} {b k o0 o4 o5 o6 : Nat} {v0 v1 v2 v3 v4 v5 v6 v : Value} (h : X.cell? ⟨b, o0, none⟩ = some v0 ∧ X.cell? ⟨k, 0, none⟩ = some v1 ∧ X.cell? ⟨k, 1, none⟩ = some v2 ∧ X.cell? ⟨k, 2, none⟩ = some v3 ∧ X.cell? ⟨b, o4, none⟩ = some v4 ∧ X.cell? ⟨b, o5, none⟩ = some v5 ∧ X.cell? ⟨b, o6, none⟩ = some v6) (hb : b < k) :
    (X.setCell ⟨k + 1, 0, none⟩ v).cell? ⟨b, o0, none⟩ = some v0 ∧ (X.setCell ⟨k + 1, 0, none⟩ v).cell? ⟨k, 0, none⟩ = some v1 ∧ (X.setCell ⟨k + 1, 0, none⟩ v).cell? ⟨k, 1, none⟩ = some v2 ∧ (X.setCell ⟨k + 1, 0, none⟩ v).cell? ⟨k, 2, none⟩ = some v3 ∧ (X.setCell ⟨k + 1, 0, none⟩ v).cell? ⟨b, o4, none⟩ = some v4 ∧ (X.setCell ⟨k + 1, 0, none⟩ v).cell? ⟨b, o5, none⟩ = some v5 ∧ (X.setCell ⟨k + 1, 0, none⟩ v).cell? ⟨b, o6, none⟩ = some v6 := by
  obtain ⟨h0, h1, h2, h3, h4, h5, h6⟩ := h
  have f (a : Addr) (u : Value) (hu : X.cell? a = some u) (ha : k + 1 ≠ a.block) : (X.setCell ⟨k + 1, 0, none⟩ v).cell? a = some u := (World.cell?_setCell_far X ⟨k + 1, 0, none⟩ a v ha).trans hu
  exact ⟨f _ _ h0 (by simp; omega), f _ _ h1 (by simp), f _ _ h2 (by simp), f _ _ h3 (by simp), f _ _ h4 (by simp; omega), f _ _ h5 (by simp; omega), f _ _ h6 (by simp; omega)⟩

set_option maxRecDepth 100000 in
set_option maxHeartbeats 6400000 in
theorem tile_in (k : Nat) (hk3 : 3 ≤ k) (b off n cap : Nat) (T : Nat → Rg) (rlo rhi : ByteArray) (rop : Bool) (w : World) (h : RgsIn w.heap.size w (some ⟨b, off, none⟩) (n + 1) cap T) :
    CallsIn Fence.wide k Tryd.prog 28 #[.slice (some ⟨b, off, none⟩) (n + 1) cap, .agg #[.string rlo, .string rhi, .bool rop]] w fun e w' => e = .returned (.bool (tiles T (n + 1) ⟨rlo, rhi, rop⟩)) ∧ Below w.heap.size w w' := by
  have h1 : 1 ≤ k := by omega
  have H := aside h
  have hcap : (n : Int) + 1 ≤ 9223372036854775807 := by have := h.2.1; omega
  clear h
  have hz : ((n : Int) + 1 == 0) = false := by rw [beq_eq_false_iff_ne]; omega
  have b00 := bthen (bnew w (.cells #[.string rlo, .string rhi, .bool rop] 35)) (bnew _ (.cells #[.bool false] 4))
  cases hE : rises T (n + 1)
  · refine callsIn_of_wp_marks Tryd.func28 rfl trivial ?_ rfl
    simp only [Tryd.ntmps28, List.size_toArray, List.length_cons, List.length_nil, Nat.reduceAdd, Nat.reduceSub, Array.replicate_succ, Array.replicate_zero, List.push_toArray, List.append_toArray, List.nil_append, List.cons_append]
    gi_wp2
    refine ⟨trivial, ?_⟩
    refine (callsIn_wide.2 (rising_at hE _ (H.out.up b00 b00.size))).mono ?_
    rintro e w1 ⟨rfl, b1⟩
    obtain ⟨kB, kR, b01⟩ := two_new b1
    obtain ⟨r0, r1⟩ := box1_out kR
    clear b1 kB b00
    gi_wp2_with fail
    have r2 := World.cell?_setCell_same' w1 ⟨w.heap.size + 1, 0, none⟩ (.bool false) (by rw [r0]; rfl)
    refine ⟨.bool false, by simp [results, Tryd.f28, go_sem, r2], ?_, b01.setCell (p := ⟨w.heap.size + 1, 0, none⟩) (by simp) _⟩
    rw [show tiles T (n + 1) ⟨rlo, rhi, rop⟩ = false from by simp [tiles, hE]]
  · refine callsIn_of_wp_marks Tryd.func28 rfl trivial ?_ rfl
    simp only [Tryd.ntmps28, List.size_toArray, List.length_cons, List.length_nil, Nat.reduceAdd, Nat.reduceSub, Array.replicate_succ, Array.replicate_zero, List.push_toArray, List.append_toArray, List.nil_append, List.cons_append]
    gi_wp2
    refine ⟨trivial, ?_⟩
    refine (callsIn_wide.2 (rising_at hE _ (H.out.up b00 b00.size))).mono ?_
    rintro e w1 ⟨rfl, b1⟩
    obtain ⟨kB, kR, b01⟩ := two_new b1
    clear b1 b00
    gi_wp2_with fail
    refine ⟨trivial, ?_⟩
    refine (nb_in (k - 1) _ _ _ _).mono ?_
    rintro e w' ⟨rfl, rfl⟩
    gi_wp2_with fail
    have kS := heap_new w1 (.cells #[.slice (some ⟨b, off, none⟩) (n + 1) cap] 47)
    have kR0 := keepA (p := .cells #[.slice (some ⟨b, off, none⟩) (n + 1) cap] 47) kR
    have kB0 := keepA (p := .cells #[.slice (some ⟨b, off, none⟩) (n + 1) cap] 47) kB
    have b02 := bthen b01 (bnew w1 (.cells #[.slice (some ⟨b, off, none⟩) (n + 1) cap] 47))
    have hsz : (w1.alloc (.cells #[.slice (some ⟨b, off, none⟩) (n + 1) cap] 47)).heap.size = w1.heap.size + 1 := by simp
    have hs1 := lies kR
    obtain ⟨W0, hW0⟩ : ∃ W0, w1.alloc (.cells #[.slice (some ⟨b, off, none⟩) (n + 1) cap] 47) = W0 := ⟨_, rfl⟩
    rw [hW0] at kS kR0 kB0 b02 hsz ⊢
    clear hW0 kR kB
    have hRg : RgsIn (w1.heap.size + 1) W0 (some ⟨b, off, none⟩) (n + 1) cap T := H.out.up b02 (by omega)
    refine wpIn_rangeFunc_ownH rfl h1 (gf := 72) (lb := #[.pointer (some ⟨w1.heap.size, 0, none⟩)]) rfl trivial (enters_of Tryd.func72 (by kernel_rfl) rfl)
      (nb_stops (k - 1) (by omega) w1.heap.size (w1.heap.size + 1) (some ⟨b, off, none⟩) (n + 1) cap T W0 (by omega) (by omega) (box1_out kS).1 hRg) belowK_t (belowK_b (by omega)) (Below.refl _ _) (fun _ => rfl)
      (fun pre W => (pre.all joinP = true ∧ W.heap[w.heap.size + 1]? = some (.cells #[.bool false] 4 (0, 0)) ∧ W.heap[w.heap.size]? = some (.cells #[.string rlo, .string rhi, .bool rop] 35 (0, 0))) ∧ (Below w.heap.size w W ∧ Below (w1.heap.size + 1) W0 W))
      (fun c pre W => (c = .ret ∧ pre.all joinP = false ∧ W.heap[w.heap.size + 1]? = some (.cells #[.bool false] 4 (0, 0))) ∧ Below w.heap.size w W)
      (OwnFrom.and (Own.from (fun s A B row hs hg hr => ⟨hs.1, cells_kept hs.2.1 hg hr, cells_kept hs.2.2 hg hr⟩) _) (OwnFrom.and (ownFrom_below (Nat.le_refl _) (by omega)) (ownFrom_below (by omega) (by omega))))
      (fun c => OwnFrom.and (Own.from (fun s A B row hs hg hr => ⟨hs.1, hs.2.1, cells_kept hs.2.2 hg hr⟩) _) (ownFrom_below (Nat.le_refl _) (by omega)))
      ⟨⟨rfl, kR0, kB0⟩, b02, Below.refl _ _⟩
      (fun x a' W => ∃ B, (W.heap[B]? = some (.cells #[.string x.1.lo, .string x.1.hi, .bool x.1.op] 35 (0, 0)) ∧ W.heap[B + 1]? = some (.cells #[.string x.2.lo, .string x.2.hi, .bool x.2.op] 35 (0, 0))) ∧ a' = { tmps := #[.slice (some ⟨b, off, none⟩) (n + 1) cap, .agg #[.string rlo, .string rhi, .bool rop], undef, .pointer (some ⟨w.heap.size, 0, none⟩), .pointer (some ⟨w.heap.size + 1, 0, none⟩), .pointer (some ⟨B, 0, none⟩), .pointer (some ⟨B + 1, 0, none⟩), .slice (some ⟨b, off, none⟩) (n + 1) cap, .int .i64 ((n : Int) + 1), .bool false, .bool false, .slice (some ⟨b, off, none⟩) (n + 1) cap, .bool true, .bool false, .bool false, .slice (some ⟨b, off, none⟩) (n + 1) cap, .func (.func 72) #[] #[.pointer (some ⟨w1.heap.size, 0, none⟩)], .agg #[.string x.1.lo, .string x.1.hi, .bool x.1.op], .agg #[.string x.2.lo, .string x.2.hi, .bool x.2.op], undef, undef, undef, undef, undef, undef, undef, undef, undef, undef, undef, undef, undef, undef, undef, undef, undef, undef, undef, undef, undef, undef], defers := [] })
      (fun x a' => Own.from (fun s A B row hs hg hr => by obtain ⟨k, ⟨h1, h2⟩, h3⟩ := hs; exact ⟨k, ⟨cells_kept h1 hg hr, cells_kept h2 hg hr⟩, h3⟩) _)
      ?assign ?body ?done ?stop
    case assign =>
      rintro l pre x W K ⟨⟨hp, hR, hB0⟩, hB, hB2⟩ hK
      dsimp only [pairV]
      gi_wp2
      have hW1 : W0.heap.size ≤ W.heap.size := hB2.size
      have k2 := heap_new (W.alloc (.cells #[.string x.1.lo, .string x.1.hi, .bool x.1.op] 35)) (.cells #[.string x.2.lo, .string x.2.hi, .bool x.2.op] 35)
      rw [World.size_alloc] at k2
      exact hK _ _ (((KeepsOthers.alloc _ _).trans (KeepsOthers.alloc _ _)).from _) (((Below.refl _ W).alloc (by omega) _).alloc (by simp; omega) _) ⟨⟨hp, keepA (keepA hR), keepA (keepA hB0)⟩, (hB.alloc hB.size _).alloc (by have := hB.size; simp; omega) _, (hB2.alloc (by omega) _).alloc (by simp; omega) _⟩ ⟨W.heap.size, ⟨keepA (heap_new W _), k2⟩, rfl⟩
    case body =>
      rintro l pre x a' W hl ⟨r, hr⟩ ⟨⟨hp, hR, hB0⟩, hB, hB2⟩ ⟨B, ⟨k1, k2⟩, rfl⟩ hlt
      obtain ⟨⟨c0, c1, c2⟩, -⟩ := box_out k1
      obtain ⟨⟨d0, d1, d2⟩, -⟩ := box_out k2
      obtain ⟨r0, r1⟩ := box1_out hR
      obtain ⟨⟨lo1, hi1, op1⟩, ⟨lo2, hi2, op2⟩⟩ := x
      dsimp only at c0 c1 c2 d0 d1 d2 ⊢
      clear k1 k2 hr hlt
      cases hj : (lo2.toList == hi1.toList)
      · gi_wp2
        exact ⟨(KeepsOthers.setCell _ _ _).from _, ⟨rfl, by rw [List.all_append]; simp [joinP, hj], (show Boxed W (w.heap.size + 1) 4 (.bool false) from hR).set _⟩, hB.setCell (p := ⟨w.heap.size + 1, 0, none⟩) (by simp) _⟩
      · gi_wp2
        exact ⟨KeepsFrom.refl _ _, Below.refl _ _, ⟨by rw [List.all_append, hp]; simp [joinP, hj], hR, hB0⟩, hB, hB2⟩
    case stop =>
      rintro D c pre W hD ⟨j, hj, rfl⟩ ⟨⟨rfl, hp, hR⟩, hB⟩ hK
      obtain ⟨r0, r1⟩ := box1_out hR
      gi_wp2
      refine ⟨by simp, .inl ⟨_, _, rfl, run_takeDeferred hK, ?_⟩⟩
      have hc5 := cell_kept r0 (grownBy_putObj' _ D (.deferred none)) (fun r e => by cases e; exact ⟨_, hK, rfl⟩)
      refine ⟨.bool false, ?_, by rw [show tiles T (n + 1) ⟨rlo, rhi, rop⟩ = false from joins_no hj hp], hB.trans (belowK_b (w := w) (Nat.le_refl _) W D _ _ (by omega) hK rfl rfl)⟩
      simp [results, Tryd.f28, go_sem, hc5]
    case done =>
      rintro D ys W hD rfl ⟨⟨hp, hR, hB0⟩, hB, hB2⟩ hK
      obtain ⟨r0, r1⟩ := box1_out hR
      obtain ⟨⟨q0, q1, q2⟩, -⟩ := box_out hB0
      have HRW := (H.out.below hB).2.2
      rcases HRW with h | ⟨b', off', e, hbb, hc⟩
      · omega
      · cases e
        obtain ⟨s0, s1, s2⟩ := hc 0 (by omega)
        obtain ⟨t0, t1, t2⟩ := hc n (by omega)
        simp only [Nat.zero_mul, Nat.add_zero] at s0
        have hv : Hid (tiles T (n + 1) ⟨rlo, rhi, rop⟩ = (((T 0).lo.toList == rlo.toList) && endAl ⟨(T n).lo, (T n).hi, (T n).op⟩ ⟨rlo, rhi, rop⟩)) := by
          show tiles T (n + 1) ⟨rlo, rhi, rop⟩ = _
          unfold tiles
          rw [hE, hp]
          simp
        have hKK := aside hK
        have hn0 : (0 : Int) ≤ (n : Int) := by omega
        have hn1 : (n : Int) < (n : Int) + 1 := by omega
        have hw2 : IntKind.i64.wrap (n : Int) = (n : Int) := by simp only [IntKind.wrap_i64]; omega
        have hn2 : (0 : Int) < (n : Int) + 1 := by omega
        clear hc hp s1 s2
        cases hq : ((T 0).lo.toList == rlo.toList)
        · rw [hq] at hv
          gi_wp2
          refine wpIn_wide.2 ?_
          refine Code.wp_mono NoPanic.imp ?_
          refine wp_region_held_drew (S := fun X => X.cell? ⟨b, off, none⟩ = some (.string (T 0).lo) ∧ X.cell? ⟨w.heap.size, 0, none⟩ = some (.string rlo) ∧ X.cell? ⟨w.heap.size, 1, none⟩ = some (.string rhi) ∧ X.cell? ⟨w.heap.size, 2, none⟩ = some (.bool rop) ∧ X.cell? ⟨b, off + n * 3, none⟩ = some (.string (T n).lo) ∧ X.cell? ⟨b, off + n * 3 + 1, none⟩ = some (.string (T n).hi) ∧ X.cell? ⟨b, off + n * 3 + 2, none⟩ = some (.bool (T n).op)) (by kernel_rfl) ⟨s0, q0, q1, q2, t0, t1, t2⟩ (fun hHeld => ?_)
          clear s0 q0 q1 q2 t0 t1 t2
          refine wpAnyH_take (i := 0) (v := ?_) rfl (by kernel_rfl) (by kernel_rfl) (by kernel_rfl) (fun _ _ _ h => h) (Or.inl ⟨by rfl, ?_⟩) (by assumption) ?_
          rotate_left
          · intro w hSw
            go_simp
            try with_reducible rfl
          simp only [Act.put, List.getElem_toArray, List.getElem_cons_zero, List.setIfInBounds_toArray, List.set_cons_zero, List.set_cons_succ]
          refine wpAnyH_take (i := 1) (v := ?_) rfl (by kernel_rfl) (by kernel_rfl) (by kernel_rfl) (fun _ _ _ h => h) (Or.inl ⟨by rfl, ?_⟩) (by assumption) ?_
          rotate_left
          · intro w hSw
            go_simp
            try with_reducible rfl
          simp only [Act.put, List.getElem_toArray, List.getElem_cons_zero, List.getElem_cons_succ, List.setIfInBounds_toArray, List.set_cons_zero, List.set_cons_succ]
          refine wpAnyH_take (i := 2) (v := ?_) rfl (by kernel_rfl) (by kernel_rfl) (by kernel_rfl) (fun _ _ _ h => h) (Or.inl ⟨by rfl, ?_⟩) (by assumption) ?_
          rotate_left
          · intro w hSw
            go_simp
            try with_reducible rfl
          simp only [Act.put, List.getElem_toArray, List.getElem_cons_zero, List.getElem_cons_succ, List.setIfInBounds_toArray, List.set_cons_zero, List.set_cons_succ]
          refine wpAnyH_take (i := 3) (v := ?_) rfl (by kernel_rfl) (by kernel_rfl) (by kernel_rfl) (fun _ _ _ h => h) (Or.inl ⟨by rfl, ?_⟩) (by assumption) ?_
          rotate_left
          · intro w hSw
            go_simp
            try with_reducible rfl
          simp only [Act.put, List.getElem_toArray, List.getElem_cons_zero, List.getElem_cons_succ, List.setIfInBounds_toArray, List.set_cons_zero, List.set_cons_succ]
          refine wpAnyH_take (i := 4) (v := ?_) rfl (by kernel_rfl) (by kernel_rfl) (by kernel_rfl) (fun _ _ _ h => h) (Or.inl ⟨by rfl, ?_⟩) (by assumption) ?_
          rotate_left
          · intro w hSw
            go_simp
            try with_reducible rfl
          simp only [Act.put, List.getElem_toArray, List.getElem_cons_zero, List.getElem_cons_succ, List.setIfInBounds_toArray, List.set_cons_zero, List.set_cons_succ]
          refine wpAnyH_take (i := 5) (v := ?_) rfl (by kernel_rfl) (by kernel_rfl) (by kernel_rfl) (fun _ _ _ h => h) (Or.inl ⟨by rfl, ?_⟩) (by assumption) ?_
          rotate_left
          · intro w hSw
            go_simp
            try with_reducible rfl
          simp only [Act.put, List.getElem_toArray, List.getElem_cons_zero, List.getElem_cons_succ, List.setIfInBounds_toArray, List.set_cons_zero, List.set_cons_succ]
          refine wpAnyH_take (i := 6) (v := ?_) rfl (by kernel_rfl) (by kernel_rfl) (by kernel_rfl) (fun _ _ _ h => h) (Or.inl ⟨by rfl, ?_⟩) (by assumption) ?_
          rotate_left
          · intro w hSw
            go_simp
            try with_reducible rfl
          simp only [Act.put, List.getElem_toArray, List.getElem_cons_zero, List.getElem_cons_succ, List.setIfInBounds_toArray, List.set_cons_zero, List.set_cons_succ]
          refine wpAnyH_take (i := 7) (v := ?_) rfl (by kernel_rfl) (by kernel_rfl) (by kernel_rfl) (fun _ _ _ h => h) (Or.inl ⟨by rfl, ?_⟩) (by assumption) ?_
          rotate_left
          · intro w hSw
            go_simp
            try with_reducible rfl
          simp only [Act.put, List.getElem_toArray, List.getElem_cons_zero, List.getElem_cons_succ, List.setIfInBounds_toArray, List.set_cons_zero, List.set_cons_succ]
          refine wpAnyH_take (i := 8) (v := undef) rfl (by kernel_rfl) (by kernel_rfl) (by kernel_rfl) (fun _ _ _ h => h) (Or.inr ⟨by rfl, rfl⟩) (by assumption) ?_
          simp only [Act.put, List.getElem_toArray, List.getElem_cons_zero, List.getElem_cons_succ, List.setIfInBounds_toArray, List.set_cons_zero, List.set_cons_succ]
          refine wpAnyH_take (i := 9) (v := undef) rfl (by kernel_rfl) (by kernel_rfl) (by kernel_rfl) (fun _ _ _ h => h) (Or.inr ⟨by rfl, rfl⟩) (by assumption) ?_
          simp only [Act.put, List.getElem_toArray, List.getElem_cons_zero, List.getElem_cons_succ, List.setIfInBounds_toArray, List.set_cons_zero, List.set_cons_succ]
          refine wpAnyH_take (i := 10) (v := undef) rfl (by kernel_rfl) (by kernel_rfl) (by kernel_rfl) (fun _ _ _ h => h) (Or.inr ⟨by rfl, rfl⟩) (by assumption) ?_
          simp only [Act.put, List.getElem_toArray, List.getElem_cons_zero, List.getElem_cons_succ, List.setIfInBounds_toArray, List.set_cons_zero, List.set_cons_succ]
          refine wpAnyH_take (i := 11) (v := undef) rfl (by kernel_rfl) (by kernel_rfl) (by kernel_rfl) (fun _ _ _ h => h) (Or.inr ⟨by rfl, rfl⟩) (by assumption) ?_
          simp only [Act.put, List.getElem_toArray, List.getElem_cons_zero, List.getElem_cons_succ, List.setIfInBounds_toArray, List.set_cons_zero, List.set_cons_succ]
          refine wpAnyH_take (i := 12) (v := undef) rfl (by kernel_rfl) (by kernel_rfl) (by kernel_rfl) (fun _ _ _ h => h) (Or.inr ⟨by rfl, rfl⟩) (by assumption) ?_
          simp only [Act.put, List.getElem_toArray, List.getElem_cons_zero, List.getElem_cons_succ, List.setIfInBounds_toArray, List.set_cons_zero, List.set_cons_succ]
          refine wpAnyH_take (i := 13) (v := undef) rfl (by kernel_rfl) (by kernel_rfl) (by kernel_rfl) (fun _ _ _ h => h) (Or.inr ⟨by rfl, rfl⟩) (by assumption) ?_
          simp only [Act.put, List.getElem_toArray, List.getElem_cons_zero, List.getElem_cons_succ, List.setIfInBounds_toArray, List.set_cons_zero, List.set_cons_succ]
          refine wpAnyH_take (i := 14) (v := undef) rfl (by kernel_rfl) (by kernel_rfl) (by kernel_rfl) (fun _ _ _ h => h) (Or.inr ⟨by rfl, rfl⟩) (by assumption) ?_
          simp only [Act.put, List.getElem_toArray, List.getElem_cons_zero, List.getElem_cons_succ, List.setIfInBounds_toArray, List.set_cons_zero, List.set_cons_succ]
          refine wpAnyH_take (i := 15) (v := undef) rfl (by kernel_rfl) (by kernel_rfl) (by kernel_rfl) (fun _ _ _ h => h) (Or.inr ⟨by rfl, rfl⟩) (by assumption) ?_
          simp only [Act.put, List.getElem_toArray, List.getElem_cons_zero, List.getElem_cons_succ, List.setIfInBounds_toArray, List.set_cons_zero, List.set_cons_succ]
          obtain ⟨w9, h9⟩ : ∃ w9, W.drew = w9 := ⟨_, rfl⟩
          have hK9 : w9.heap[D]? = some (.deferred (some [])) := by rw [← h9]; exact hKK.out
          have b9 : Below w.heap.size w w9 := by rw [← h9]; exact hB.drew
          have r0' : w9.cell? ⟨w.heap.size + 1, 0, none⟩ = some (.bool false) := by rw [← h9]; exact r0
          have r1' : w9.frozen? ⟨w.heap.size + 1, 0, none⟩ = false := by rw [← h9]; exact r1
          clear r0 r1
          have r0 := r0'
          rw [h9] at hHeld ⊢
          clear r0' h9
          refine wpAnyH_take (i := 16) (v := ?_) rfl (by kernel_rfl) (by kernel_rfl) (by kernel_rfl) (fun _ _ _ h => h) (Or.inl ⟨by rfl, ?_⟩) (by assumption) ?_
          rotate_left
          · intro w hSw
            go_simp
            try with_reducible rfl
          simp only [Act.put, List.getElem_toArray, List.getElem_cons_zero, List.getElem_cons_succ, List.setIfInBounds_toArray, List.set_cons_zero, List.set_cons_succ]
          refine wpAnyH_ready (rs := [17]) (by kernel_rfl) (by simp) ?_
          refine AllReadyH.cons rfl (fun K hK => ?_) AllReadyH.nil
          go_simp
          refine hK.out _ _ (tile_set hHeld hbb) (fun hHeld => ?_)
          clear hK K
          refine wpAnyH_done (by kernel_rfl) ?_ _
          refine NoPanic.normal ?_
          gi_wp2
          have hK' := (KeepsOthers.setCell (w9) ⟨w.heap.size + 1, 0, none⟩ (.bool false)).same D _ hK9 rfl
          refine ⟨by simp, .inl ⟨_, _, rfl, run_takeDeferred hK', ?_⟩⟩
          have hc5 := cell_kept (World.cell?_setCell_same' (w9) ⟨w.heap.size + 1, 0, none⟩ (.bool false) (by rw [r0]; rfl)) (grownBy_putObj' _ D (.deferred none)) (fun r e => by cases e; exact ⟨_, hK', rfl⟩)
          refine ⟨.bool false, ?_, by first | (rw [hv.out]; done) | (rw [hv.out]; rfl), (b9.setCell (p := ⟨w.heap.size + 1, 0, none⟩) (by simp) _).trans (belowK_b (w := w) (Nat.le_refl _) _ D _ _ (by omega) hK' rfl rfl)⟩
          simp [results, Tryd.f28, go_sem, hc5]
        · rw [hq] at hv
          cases hen : endAl ⟨(T n).lo, (T n).hi, (T n).op⟩ ⟨rlo, rhi, rop⟩
          · rw [hen] at hv
            have EA := aside (fun w => endAlike_at hen w)
            clear hen
            gi_wp2
            refine wpIn_wide.2 ?_
            refine Code.wp_mono NoPanic.imp ?_
            refine wp_region_held_drew (S := fun X => X.cell? ⟨b, off, none⟩ = some (.string (T 0).lo) ∧ X.cell? ⟨w.heap.size, 0, none⟩ = some (.string rlo) ∧ X.cell? ⟨w.heap.size, 1, none⟩ = some (.string rhi) ∧ X.cell? ⟨w.heap.size, 2, none⟩ = some (.bool rop) ∧ X.cell? ⟨b, off + n * 3, none⟩ = some (.string (T n).lo) ∧ X.cell? ⟨b, off + n * 3 + 1, none⟩ = some (.string (T n).hi) ∧ X.cell? ⟨b, off + n * 3 + 2, none⟩ = some (.bool (T n).op)) (by kernel_rfl) ⟨s0, q0, q1, q2, t0, t1, t2⟩ (fun hHeld => ?_)
            clear s0 q0 q1 q2 t0 t1 t2
            refine wpAnyH_take (i := 0) (v := ?_) rfl (by kernel_rfl) (by kernel_rfl) (by kernel_rfl) (fun _ _ _ h => h) (Or.inl ⟨by rfl, ?_⟩) (by assumption) ?_
            rotate_left
            · intro w hSw
              go_simp
              try with_reducible rfl
            simp only [Act.put, List.getElem_toArray, List.getElem_cons_zero, List.setIfInBounds_toArray, List.set_cons_zero, List.set_cons_succ]
            refine wpAnyH_take (i := 1) (v := ?_) rfl (by kernel_rfl) (by kernel_rfl) (by kernel_rfl) (fun _ _ _ h => h) (Or.inl ⟨by rfl, ?_⟩) (by assumption) ?_
            rotate_left
            · intro w hSw
              go_simp
              try with_reducible rfl
            simp only [Act.put, List.getElem_toArray, List.getElem_cons_zero, List.getElem_cons_succ, List.setIfInBounds_toArray, List.set_cons_zero, List.set_cons_succ]
            refine wpAnyH_take (i := 2) (v := ?_) rfl (by kernel_rfl) (by kernel_rfl) (by kernel_rfl) (fun _ _ _ h => h) (Or.inl ⟨by rfl, ?_⟩) (by assumption) ?_
            rotate_left
            · intro w hSw
              go_simp
              try with_reducible rfl
            simp only [Act.put, List.getElem_toArray, List.getElem_cons_zero, List.getElem_cons_succ, List.setIfInBounds_toArray, List.set_cons_zero, List.set_cons_succ]
            refine wpAnyH_take (i := 3) (v := ?_) rfl (by kernel_rfl) (by kernel_rfl) (by kernel_rfl) (fun _ _ _ h => h) (Or.inl ⟨by rfl, ?_⟩) (by assumption) ?_
            rotate_left
            · intro w hSw
              go_simp
              try with_reducible rfl
            simp only [Act.put, List.getElem_toArray, List.getElem_cons_zero, List.getElem_cons_succ, List.setIfInBounds_toArray, List.set_cons_zero, List.set_cons_succ]
            refine wpAnyH_take (i := 4) (v := ?_) rfl (by kernel_rfl) (by kernel_rfl) (by kernel_rfl) (fun _ _ _ h => h) (Or.inl ⟨by rfl, ?_⟩) (by assumption) ?_
            rotate_left
            · intro w hSw
              go_simp
              try with_reducible rfl
            simp only [Act.put, List.getElem_toArray, List.getElem_cons_zero, List.getElem_cons_succ, List.setIfInBounds_toArray, List.set_cons_zero, List.set_cons_succ]
            refine wpAnyH_take (i := 5) (v := ?_) rfl (by kernel_rfl) (by kernel_rfl) (by kernel_rfl) (fun _ _ _ h => h) (Or.inl ⟨by rfl, ?_⟩) (by assumption) ?_
            rotate_left
            · intro w hSw
              go_simp
              try with_reducible rfl
            simp only [Act.put, List.getElem_toArray, List.getElem_cons_zero, List.getElem_cons_succ, List.setIfInBounds_toArray, List.set_cons_zero, List.set_cons_succ]
            refine wpAnyH_take (i := 6) (v := ?_) rfl (by kernel_rfl) (by kernel_rfl) (by kernel_rfl) (fun _ _ _ h => h) (Or.inl ⟨by rfl, ?_⟩) (by assumption) ?_
            rotate_left
            · intro w hSw
              go_simp
              try with_reducible rfl
            simp only [Act.put, List.getElem_toArray, List.getElem_cons_zero, List.getElem_cons_succ, List.setIfInBounds_toArray, List.set_cons_zero, List.set_cons_succ]
            refine wpAnyH_take (i := 7) (v := ?_) rfl (by kernel_rfl) (by kernel_rfl) (by kernel_rfl) (fun _ _ _ h => h) (Or.inl ⟨by rfl, ?_⟩) (by assumption) ?_
            rotate_left
            · intro w hSw
              go_simp
              try with_reducible rfl
            simp only [Act.put, List.getElem_toArray, List.getElem_cons_zero, List.getElem_cons_succ, List.setIfInBounds_toArray, List.set_cons_zero, List.set_cons_succ]
            refine wpAnyH_take (i := 8) (v := ?_) rfl (by kernel_rfl) (by kernel_rfl) (by kernel_rfl) (fun _ _ _ h => h) (Or.inl ⟨by rfl, ?_⟩) (by assumption) ?_
            rotate_left
            · intro w hSw
              go_simp
              try with_reducible rfl
            simp only [Act.put, List.getElem_toArray, List.getElem_cons_zero, List.getElem_cons_succ, List.setIfInBounds_toArray, List.set_cons_zero, List.set_cons_succ]
            refine wpAnyH_take (i := 9) (v := ?_) rfl (by kernel_rfl) (by kernel_rfl) (by kernel_rfl) (fun _ _ _ h => h) (Or.inl ⟨by rfl, ?_⟩) (by assumption) ?_
            rotate_left
            · intro w hSw
              go_simp
              try with_reducible rfl
            simp only [Act.put, List.getElem_toArray, List.getElem_cons_zero, List.getElem_cons_succ, List.setIfInBounds_toArray, List.set_cons_zero, List.set_cons_succ]
            refine wpAnyH_take (i := 10) (v := ?_) rfl (by kernel_rfl) (by kernel_rfl) (by kernel_rfl) (fun _ _ _ h => h) (Or.inl ⟨by rfl, ?_⟩) (by assumption) ?_
            rotate_left
            · intro w hSw
              go_simp
              try with_reducible rfl
            simp only [Act.put, List.getElem_toArray, List.getElem_cons_zero, List.getElem_cons_succ, List.setIfInBounds_toArray, List.set_cons_zero, List.set_cons_succ]
            refine wpAnyH_take (i := 11) (v := ?_) rfl (by kernel_rfl) (by kernel_rfl) (by kernel_rfl) (fun _ _ _ h => h) (Or.inl ⟨by rfl, ?_⟩) (by assumption) ?_
            rotate_left
            · intro w hSw
              go_simp
              try with_reducible rfl
            simp only [Act.put, List.getElem_toArray, List.getElem_cons_zero, List.getElem_cons_succ, List.setIfInBounds_toArray, List.set_cons_zero, List.set_cons_succ]
            refine wpAnyH_take (i := 12) (v := ?_) rfl (by kernel_rfl) (by kernel_rfl) (by kernel_rfl) (fun _ _ _ h => h) (Or.inl ⟨by rfl, ?_⟩) (by assumption) ?_
            rotate_left
            · intro w hSw
              go_simp
              try with_reducible rfl
            simp only [Act.put, List.getElem_toArray, List.getElem_cons_zero, List.getElem_cons_succ, List.setIfInBounds_toArray, List.set_cons_zero, List.set_cons_succ]
            refine wpAnyH_take (i := 13) (v := ?_) rfl (by kernel_rfl) (by kernel_rfl) (by kernel_rfl) (fun _ _ _ h => h) (Or.inl ⟨by rfl, ?_⟩) (by assumption) ?_
            rotate_left
            · intro w hSw
              go_simp
              try with_reducible rfl
            simp only [Act.put, List.getElem_toArray, List.getElem_cons_zero, List.getElem_cons_succ, List.setIfInBounds_toArray, List.set_cons_zero, List.set_cons_succ]
            refine wpAnyH_take (i := 14) (v := ?_) rfl (by kernel_rfl) (by kernel_rfl) (by kernel_rfl) (fun _ _ _ h => h) (Or.inl ⟨by rfl, ?_⟩) (by assumption) ?_
            rotate_left
            · intro w hSw
              go_simp
              try with_reducible rfl
            simp only [Act.put, List.getElem_toArray, List.getElem_cons_zero, List.getElem_cons_succ, List.setIfInBounds_toArray, List.set_cons_zero, List.set_cons_succ]
            refine wpAnyH_ready (rs := [15]) (by kernel_rfl) (by simp) ?_
            refine AllReadyH.cons rfl (fun K hK => ?_) AllReadyH.nil
            go_simp
            refine (EA.out _).mono ?_
            rintro e w9 ⟨rfl, bb⟩
            refine hK.out _ _ (tile_keep hHeld bb) (fun hHeld => ?_)
            clear hK K EA
            have hK9 : w9.heap[D]? = some (.deferred (some [])) := (bb.block D (lies (w := W) hKK.out)).trans hKK.out
            have b9 := hB.drew.trans (bb.mono hB.size)
            have r0' : w9.cell? ⟨w.heap.size + 1, 0, none⟩ = some (.bool false) := cell_on (W := W.drew) r0 bb
            have r1' : w9.frozen? ⟨w.heap.size + 1, 0, none⟩ = false := (bb.frozen (p := ⟨w.heap.size + 1, 0, none⟩) (lies (w := W) hR)).trans r1
            clear r0 r1
            have r0 := r0'
            clear r0' bb
            refine wpAnyH_take (i := 16) (v := ?_) rfl (by kernel_rfl) (by kernel_rfl) (by kernel_rfl) (fun _ _ _ h => h) (Or.inl ⟨by rfl, ?_⟩) (by assumption) ?_
            rotate_left
            · intro w hSw
              go_simp
              try with_reducible rfl
            simp only [Act.put, List.getElem_toArray, List.getElem_cons_zero, List.getElem_cons_succ, List.setIfInBounds_toArray, List.set_cons_zero, List.set_cons_succ]
            refine wpAnyH_ready (rs := [17]) (by kernel_rfl) (by simp) ?_
            refine AllReadyH.cons rfl (fun K hK => ?_) AllReadyH.nil
            go_simp
            refine hK.out _ _ (tile_set hHeld hbb) (fun hHeld => ?_)
            clear hK K
            refine wpAnyH_done (by kernel_rfl) ?_ _
            refine NoPanic.normal ?_
            gi_wp2
            have hK' := (KeepsOthers.setCell (w9) ⟨w.heap.size + 1, 0, none⟩ (.bool false)).same D _ hK9 rfl
            refine ⟨by simp, .inl ⟨_, _, rfl, run_takeDeferred hK', ?_⟩⟩
            have hc5 := cell_kept (World.cell?_setCell_same' (w9) ⟨w.heap.size + 1, 0, none⟩ (.bool false) (by rw [r0]; rfl)) (grownBy_putObj' _ D (.deferred none)) (fun r e => by cases e; exact ⟨_, hK', rfl⟩)
            refine ⟨.bool false, ?_, by first | (rw [hv.out]; done) | (rw [hv.out]; rfl), (b9.setCell (p := ⟨w.heap.size + 1, 0, none⟩) (by simp) _).trans (belowK_b (w := w) (Nat.le_refl _) _ D _ _ (by omega) hK' rfl rfl)⟩
            simp [results, Tryd.f28, go_sem, hc5]
          · rw [hen] at hv
            have EA := aside (fun w => endAlike_at hen w)
            clear hen
            gi_wp2
            refine wpIn_wide.2 ?_
            refine Code.wp_mono NoPanic.imp ?_
            refine wp_region_held_drew (S := fun X => X.cell? ⟨b, off, none⟩ = some (.string (T 0).lo) ∧ X.cell? ⟨w.heap.size, 0, none⟩ = some (.string rlo) ∧ X.cell? ⟨w.heap.size, 1, none⟩ = some (.string rhi) ∧ X.cell? ⟨w.heap.size, 2, none⟩ = some (.bool rop) ∧ X.cell? ⟨b, off + n * 3, none⟩ = some (.string (T n).lo) ∧ X.cell? ⟨b, off + n * 3 + 1, none⟩ = some (.string (T n).hi) ∧ X.cell? ⟨b, off + n * 3 + 2, none⟩ = some (.bool (T n).op)) (by kernel_rfl) ⟨s0, q0, q1, q2, t0, t1, t2⟩ (fun hHeld => ?_)
            clear s0 q0 q1 q2 t0 t1 t2
            refine wpAnyH_take (i := 0) (v := ?_) rfl (by kernel_rfl) (by kernel_rfl) (by kernel_rfl) (fun _ _ _ h => h) (Or.inl ⟨by rfl, ?_⟩) (by assumption) ?_
            rotate_left
            · intro w hSw
              go_simp
              try with_reducible rfl
            simp only [Act.put, List.getElem_toArray, List.getElem_cons_zero, List.setIfInBounds_toArray, List.set_cons_zero, List.set_cons_succ]
            refine wpAnyH_take (i := 1) (v := ?_) rfl (by kernel_rfl) (by kernel_rfl) (by kernel_rfl) (fun _ _ _ h => h) (Or.inl ⟨by rfl, ?_⟩) (by assumption) ?_
            rotate_left
            · intro w hSw
              go_simp
              try with_reducible rfl
            simp only [Act.put, List.getElem_toArray, List.getElem_cons_zero, List.getElem_cons_succ, List.setIfInBounds_toArray, List.set_cons_zero, List.set_cons_succ]
            refine wpAnyH_take (i := 2) (v := ?_) rfl (by kernel_rfl) (by kernel_rfl) (by kernel_rfl) (fun _ _ _ h => h) (Or.inl ⟨by rfl, ?_⟩) (by assumption) ?_
            rotate_left
            · intro w hSw
              go_simp
              try with_reducible rfl
            simp only [Act.put, List.getElem_toArray, List.getElem_cons_zero, List.getElem_cons_succ, List.setIfInBounds_toArray, List.set_cons_zero, List.set_cons_succ]
            refine wpAnyH_take (i := 3) (v := ?_) rfl (by kernel_rfl) (by kernel_rfl) (by kernel_rfl) (fun _ _ _ h => h) (Or.inl ⟨by rfl, ?_⟩) (by assumption) ?_
            rotate_left
            · intro w hSw
              go_simp
              try with_reducible rfl
            simp only [Act.put, List.getElem_toArray, List.getElem_cons_zero, List.getElem_cons_succ, List.setIfInBounds_toArray, List.set_cons_zero, List.set_cons_succ]
            refine wpAnyH_take (i := 4) (v := ?_) rfl (by kernel_rfl) (by kernel_rfl) (by kernel_rfl) (fun _ _ _ h => h) (Or.inl ⟨by rfl, ?_⟩) (by assumption) ?_
            rotate_left
            · intro w hSw
              go_simp
              try with_reducible rfl
            simp only [Act.put, List.getElem_toArray, List.getElem_cons_zero, List.getElem_cons_succ, List.setIfInBounds_toArray, List.set_cons_zero, List.set_cons_succ]
            refine wpAnyH_take (i := 5) (v := ?_) rfl (by kernel_rfl) (by kernel_rfl) (by kernel_rfl) (fun _ _ _ h => h) (Or.inl ⟨by rfl, ?_⟩) (by assumption) ?_
            rotate_left
            · intro w hSw
              go_simp
              try with_reducible rfl
            simp only [Act.put, List.getElem_toArray, List.getElem_cons_zero, List.getElem_cons_succ, List.setIfInBounds_toArray, List.set_cons_zero, List.set_cons_succ]
            refine wpAnyH_take (i := 6) (v := ?_) rfl (by kernel_rfl) (by kernel_rfl) (by kernel_rfl) (fun _ _ _ h => h) (Or.inl ⟨by rfl, ?_⟩) (by assumption) ?_
            rotate_left
            · intro w hSw
              go_simp
              try with_reducible rfl
            simp only [Act.put, List.getElem_toArray, List.getElem_cons_zero, List.getElem_cons_succ, List.setIfInBounds_toArray, List.set_cons_zero, List.set_cons_succ]
            refine wpAnyH_take (i := 7) (v := ?_) rfl (by kernel_rfl) (by kernel_rfl) (by kernel_rfl) (fun _ _ _ h => h) (Or.inl ⟨by rfl, ?_⟩) (by assumption) ?_
            rotate_left
            · intro w hSw
              go_simp
              try with_reducible rfl
            simp only [Act.put, List.getElem_toArray, List.getElem_cons_zero, List.getElem_cons_succ, List.setIfInBounds_toArray, List.set_cons_zero, List.set_cons_succ]
            refine wpAnyH_take (i := 8) (v := ?_) rfl (by kernel_rfl) (by kernel_rfl) (by kernel_rfl) (fun _ _ _ h => h) (Or.inl ⟨by rfl, ?_⟩) (by assumption) ?_
            rotate_left
            · intro w hSw
              go_simp
              try with_reducible rfl
            simp only [Act.put, List.getElem_toArray, List.getElem_cons_zero, List.getElem_cons_succ, List.setIfInBounds_toArray, List.set_cons_zero, List.set_cons_succ]
            refine wpAnyH_take (i := 9) (v := ?_) rfl (by kernel_rfl) (by kernel_rfl) (by kernel_rfl) (fun _ _ _ h => h) (Or.inl ⟨by rfl, ?_⟩) (by assumption) ?_
            rotate_left
            · intro w hSw
              go_simp
              try with_reducible rfl
            simp only [Act.put, List.getElem_toArray, List.getElem_cons_zero, List.getElem_cons_succ, List.setIfInBounds_toArray, List.set_cons_zero, List.set_cons_succ]
            refine wpAnyH_take (i := 10) (v := ?_) rfl (by kernel_rfl) (by kernel_rfl) (by kernel_rfl) (fun _ _ _ h => h) (Or.inl ⟨by rfl, ?_⟩) (by assumption) ?_
            rotate_left
            · intro w hSw
              go_simp
              try with_reducible rfl
            simp only [Act.put, List.getElem_toArray, List.getElem_cons_zero, List.getElem_cons_succ, List.setIfInBounds_toArray, List.set_cons_zero, List.set_cons_succ]
            refine wpAnyH_take (i := 11) (v := ?_) rfl (by kernel_rfl) (by kernel_rfl) (by kernel_rfl) (fun _ _ _ h => h) (Or.inl ⟨by rfl, ?_⟩) (by assumption) ?_
            rotate_left
            · intro w hSw
              go_simp
              try with_reducible rfl
            simp only [Act.put, List.getElem_toArray, List.getElem_cons_zero, List.getElem_cons_succ, List.setIfInBounds_toArray, List.set_cons_zero, List.set_cons_succ]
            refine wpAnyH_take (i := 12) (v := ?_) rfl (by kernel_rfl) (by kernel_rfl) (by kernel_rfl) (fun _ _ _ h => h) (Or.inl ⟨by rfl, ?_⟩) (by assumption) ?_
            rotate_left
            · intro w hSw
              go_simp
              try with_reducible rfl
            simp only [Act.put, List.getElem_toArray, List.getElem_cons_zero, List.getElem_cons_succ, List.setIfInBounds_toArray, List.set_cons_zero, List.set_cons_succ]
            refine wpAnyH_take (i := 13) (v := ?_) rfl (by kernel_rfl) (by kernel_rfl) (by kernel_rfl) (fun _ _ _ h => h) (Or.inl ⟨by rfl, ?_⟩) (by assumption) ?_
            rotate_left
            · intro w hSw
              go_simp
              try with_reducible rfl
            simp only [Act.put, List.getElem_toArray, List.getElem_cons_zero, List.getElem_cons_succ, List.setIfInBounds_toArray, List.set_cons_zero, List.set_cons_succ]
            refine wpAnyH_take (i := 14) (v := ?_) rfl (by kernel_rfl) (by kernel_rfl) (by kernel_rfl) (fun _ _ _ h => h) (Or.inl ⟨by rfl, ?_⟩) (by assumption) ?_
            rotate_left
            · intro w hSw
              go_simp
              try with_reducible rfl
            simp only [Act.put, List.getElem_toArray, List.getElem_cons_zero, List.getElem_cons_succ, List.setIfInBounds_toArray, List.set_cons_zero, List.set_cons_succ]
            refine wpAnyH_ready (rs := [15]) (by kernel_rfl) (by simp) ?_
            refine AllReadyH.cons rfl (fun K hK => ?_) AllReadyH.nil
            go_simp
            refine (EA.out _).mono ?_
            rintro e w9 ⟨rfl, bb⟩
            refine hK.out _ _ (tile_keep hHeld bb) (fun hHeld => ?_)
            clear hK K EA
            have hK9 : w9.heap[D]? = some (.deferred (some [])) := (bb.block D (lies (w := W) hKK.out)).trans hKK.out
            have b9 := hB.drew.trans (bb.mono hB.size)
            have r0' : w9.cell? ⟨w.heap.size + 1, 0, none⟩ = some (.bool false) := cell_on (W := W.drew) r0 bb
            have r1' : w9.frozen? ⟨w.heap.size + 1, 0, none⟩ = false := (bb.frozen (p := ⟨w.heap.size + 1, 0, none⟩) (lies (w := W) hR)).trans r1
            clear r0 r1
            have r0 := r0'
            clear r0' bb
            refine wpAnyH_take (i := 16) (v := ?_) rfl (by kernel_rfl) (by kernel_rfl) (by kernel_rfl) (fun _ _ _ h => h) (Or.inl ⟨by rfl, ?_⟩) (by assumption) ?_
            rotate_left
            · intro w hSw
              go_simp
              try with_reducible rfl
            simp only [Act.put, List.getElem_toArray, List.getElem_cons_zero, List.getElem_cons_succ, List.setIfInBounds_toArray, List.set_cons_zero, List.set_cons_succ]
            refine wpAnyH_ready (rs := [17]) (by kernel_rfl) (by simp) ?_
            refine AllReadyH.cons rfl (fun K hK => ?_) AllReadyH.nil
            go_simp
            refine hK.out _ _ (tile_set hHeld hbb) (fun hHeld => ?_)
            clear hK K
            refine wpAnyH_done (by kernel_rfl) ?_ _
            refine NoPanic.normal ?_
            gi_wp2
            have hK' := (KeepsOthers.setCell (w9) ⟨w.heap.size + 1, 0, none⟩ (.bool true)).same D _ hK9 rfl
            refine ⟨by simp, .inl ⟨_, _, rfl, run_takeDeferred hK', ?_⟩⟩
            have hc5 := cell_kept (World.cell?_setCell_same' (w9) ⟨w.heap.size + 1, 0, none⟩ (.bool true) (by rw [r0]; rfl)) (grownBy_putObj' _ D (.deferred none)) (fun r e => by cases e; exact ⟨_, hK', rfl⟩)
            refine ⟨.bool true, ?_, by first | (rw [hv.out]; done) | (rw [hv.out]; rfl), (b9.setCell (p := ⟨w.heap.size + 1, 0, none⟩) (by simp) _).trans (belowK_b (w := w) (Nat.le_refl _) _ D _ _ (by omega) hK' rfl rfl)⟩
            simp [results, Tryd.f28, go_sem, hc5]

theorem tile_any (a : Option Addr) (len cap : Nat) (T : Nat → Rg) (rlo rhi : ByteArray) (rop : Bool) (w : World) (h : RgsIn w.heap.size w a len cap T) :
    Calls Tryd.prog 28 #[.slice a len cap, .agg #[.string rlo, .string rhi, .bool rop]] w fun e w' => e = .returned (.bool (tiles T len ⟨rlo, rhi, rop⟩)) ∧ Below w.heap.size w w' := by
  cases len with
  | zero => exact (callsIn_wide (n := 3)).1 (tile_none 3 a cap T rlo rhi rop w)
  | succ n =>
    obtain ⟨h1, h2, h3 | ⟨b, off, rfl, h4⟩⟩ := h
    · omega
    · exact (callsIn_wide (n := 3)).1 (tile_in 3 (Nat.le_refl _) b off n cap T rlo rhi rop w ⟨h1, h2, .inr ⟨b, off, rfl, h4⟩⟩)

end Go.Proofs.YtlgcdcjhflihiaaDoor

/-
  The iterator over neighbours: what it hands to a loop's body, over every slice of ranges.
-/
import Derived.Test.YtfnmpfaecafckaaYSEmp
import Derived.RangeFuncNested
import Derived.RangeFuncBound
import Derived.RangeFuncCalls
import Derived.RangeFuncLeaves
import Derived.Shelf.Abstract
import Derived.Shelf.RegionOpen
import Derived.OwnWalkIn
import Derived.TacticsInMore
import Derived.LoopNIn
import Derived.LoopIn
import Derived.Stop.RegionWithIn
namespace Go.Proofs.Ytfnmpfaecafckaa
open Go.RowKit Go.Shelf
attribute [local go_sem] Oper.semAt_some
/-- What has come when k rounds are over. -/
def upto {α : Type} (f : Nat → α) (k : Nat) : List α := (List.range k).map f

theorem upto_succ {α : Type} (f : Nat → α) (k : Nat) : upto f (k + 1) = upto f k ++ [f k] := by simp [upto, List.range_succ]

theorem upto_length {α : Type} (f : Nat → α) (k : Nat) : (upto f k).length = k := by simp [upto]

/-- The ranges T 0, T 1 .. lie one behind the other, three cells each, below n₀. -/
def RgsIn (n₀ : Nat) (w : World) (a : Option Addr) (len cap : Nat) (T : Nat → Rg) : Prop :=
  len ≤ cap ∧ len * 40 ≤ 281474976710656 ∧ (len = 0 ∨ ∃ blk off, a = some ⟨blk, off, none⟩ ∧ blk < n₀ ∧ ∀ i, i < len →
    (w.cell? ⟨blk, off + i * 3, none⟩ = some (.string (T i).lo) ∧ w.cell? ⟨blk, off + i * 3 + 1, none⟩ = some (.string (T i).hi) ∧ w.cell? ⟨blk, off + i * 3 + 2, none⟩ = some (.bool (T i).op)))

theorem RgsIn.below {n₀ : Nat} {A B : World} (h : Below n₀ A B) {a : Option Addr} {len cap : Nat} {T : Nat → Rg} (hr : RgsIn n₀ A a len cap T) : RgsIn n₀ B a len cap T := by
  obtain ⟨h1, h2, h3⟩ := hr
  refine ⟨h1, h2, ?_⟩
  rcases h3 with h3 | ⟨blk, off, e, hb, hc⟩
  · exact .inl h3
  · exact .inr ⟨blk, off, e, hb, fun i hi => ⟨(h.cell (p := ⟨blk, off + i * 3, none⟩) hb).trans (hc i hi).1, (h.cell (p := ⟨blk, off + i * 3 + 1, none⟩) hb).trans (hc i hi).2.1, (h.cell (p := ⟨blk, off + i * 3 + 2, none⟩) hb).trans (hc i hi).2.2⟩⟩

def pairV (x : Rg × Rg) : Array Value := #[.agg #[.string x.1.lo, .string x.1.hi, .bool x.1.op], .agg #[.string x.2.lo, .string x.2.hi, .bool x.2.op]]

/-- How a round may end: it goes on, or it says no more. -/
def wentOn (n₀ : Nat) (W : World) (J Jx : List (Rg × Rg) → World → Prop) (xs : List (Rg × Rg)) (q : Bool) (W' : World) : Prop :=
  (q = true ∧ J xs W' ∧ Below n₀ W W') ∨ (q = false ∧ Jx xs W')

theorem grown_drew0 (w : World) : w.grownBy w.drew none := ⟨rfl, rfl, rfl, Nat.le_refl _, fun _ _ _ => rfl⟩

set_option maxRecDepth 100000 in
set_option maxHeartbeats 4000000 in
theorem nb1_in (n : Nat) (hn : 1 ≤ n) (l Bs n₀ b off len cap : Nat) (T : Nat → Rg) (hreach : len * 40 ≤ 281474976710656) (hb : b < n₀) (hlen : 0 < len) (J Jx : List (Rg × Rg) → World → Prop)
    (hY : ∀ pre x W, J pre W → pre.length < len - 1 → YieldAt Fence.wide (n - 1) Try.prog l (pairV x) W fun e W' =>
      (e = .returned (.bool true) ∧ J (pre ++ [x]) W' ∧ Below n₀ W W') ∨ (e = .returned (.bool false) ∧ Jx (pre ++ [x]) W'))
    (W : World) (hJ : AbidesFrom W.heap.size J) (hBb : Bs < n₀) (hBs : W.cell? ⟨Bs, 0, none⟩ = some (.slice (some ⟨b, off, none⟩) len cap))
    (hc : ∀ i, i < len → (W.cell? ⟨b, off + i * 3, none⟩ = some (.string (T i).lo) ∧ W.cell? ⟨b, off + i * 3 + 1, none⟩ = some (.string (T i).hi) ∧ W.cell? ⟨b, off + i * 3 + 2, none⟩ = some (.bool (T i).op))) (h0 : J [] W) :
    CallsIn Fence.wide n Try.prog 60 #[.func (.yield l) #[] #[], .pointer (some ⟨Bs, 0, none⟩)] W fun e W' => (∃ v, e = .returned v) ∧
      ((∃ ys, ys = upto (fun j => (T j, T (j + 1))) (len - 1) ∧ J ys W') ∨ (∃ pre, (∃ k, k ≤ len - 1 ∧ pre = upto (fun j => (T j, T (j + 1))) k) ∧ Jx pre W')) := by
  refine callsIn_of_wp Try.func60 rfl trivial ?_ rfl
  simp only [Try.ntmps60, List.size_toArray, List.length_cons, List.length_nil, Nat.reduceAdd, Nat.reduceSub, Array.replicate_succ, Array.replicate_zero, List.push_toArray, List.append_toArray, List.nil_append, List.cons_append]
  gi_wp2
  gi_loopw [3] (fun i wr => ∃ k : Nat, k + 1 ≤ len ∧ i = .int .i64 ((k : Int) + 1) ∧ J (upto (fun j => (T j, T (j + 1))) k) wr ∧ Below n₀ W wr)
    (fun i _ => len - (intOf i).toNat)
  case atStart => exact ⟨0, by omega, rfl, h0, Below.refl _ _⟩
  case round =>
    obtain ⟨k, hk, rfl, hJs, hnx⟩ := hrel
    have hs := (hnx.cell (p := ⟨Bs, 0, none⟩) hBb).trans hBs
    by_cases hlt : k + 1 < len
    · obtain ⟨c0, c1, c2⟩ := hc k (by omega)
      obtain ⟨d0, d1, d2⟩ := hc (k + 1) (by omega)
      have c0' := (hnx.cell (p := ⟨b, off + k * 3, none⟩) hb).trans c0
      have c1' := (hnx.cell (p := ⟨b, off + k * 3 + 1, none⟩) hb).trans c1
      have c2' := (hnx.cell (p := ⟨b, off + k * 3 + 2, none⟩) hb).trans c2
      have d0' := (hnx.cell (p := ⟨b, off + (k + 1) * 3, none⟩) hb).trans d0
      have d1' := (hnx.cell (p := ⟨b, off + (k + 1) * 3 + 1, none⟩) hb).trans d1
      have d2' := (hnx.cell (p := ⟨b, off + (k + 1) * 3 + 2, none⟩) hb).trans d2
      obtain ⟨fn, tmps, assign, body, hy, hR⟩ := hY _ (T k, T (k + 1)) wr.drew (hJ _ _ _ none hJs (grown_drew0 wr) (fun r e => by cases e)) (by rw [upto_length]; omega)
      dsimp only [pairV] at hy
      have hQ := hR.mono (R' := fun e W' => ∃ q : Bool, e = .returned (.bool q) ∧ wentOn n₀ wr.drew J Jx (upto (fun j => (T j, T (j + 1))) k ++ [(T k, T (k + 1))]) q W') (fun e W' h => by
        rcases h with ⟨rfl, h1, h2⟩ | ⟨rfl, h1⟩
        · exact ⟨true, rfl, .inl ⟨rfl, h1, h2⟩⟩
        · exact ⟨false, rfl, .inr ⟨rfl, h1⟩⟩)
      clear hc c0 c1 c2 d0 d1 d2 hY hBs hR
      have hlt' : (k : Int) + 1 < (len : Int) := by omega
      have hk0 : (0 : Int) ≤ (k : Int) := by omega
      have hk1 : (k : Int) < (len : Int) := by omega
      have hk2 : (0 : Int) ≤ (k : Int) + 1 := by omega
      have hw2 : IntKind.i64.wrap (k : Int) = (k : Int) := by simp only [IntKind.wrap_i64]; omega
      gi_wp2
      gi_region_with (refine hQ.mono ?_; rintro e W3 ⟨q, rfl, hq⟩)
      all_goals
        clear hy hQ hw2
        rcases hq with ⟨rfl, hJ3, hk3⟩ | ⟨rfl, hJx3⟩
        · gi_wp2
          go_roundw
          case rel => exact ⟨k + 1, by omega, by go_num, by rw [upto_succ]; exact hJ3, hnx.drew.trans hk3⟩
          case measure => simp [intOf]; omega
        · gi_wp2
          refine bodyPost_ret (results_none rfl _ _ _) rfl ?_
          exact ⟨⟨_, rfl⟩, .inr ⟨_, ⟨k + 1, by omega, (upto_succ _ _).symm⟩, hJx3⟩⟩
    · obtain rfl : len = k + 1 := by omega
      have hge : ¬ ((k : Int) + 1 < ((k + 1 : Nat) : Int)) := by omega
      gi_wp2
      go_end0
      exact ⟨⟨_, rfl⟩, .inl hJs⟩

set_option maxRecDepth 100000 in
set_option maxHeartbeats 1000000 in
/-- No range: no round. -/
theorem nb1_nil_in (n : Nat) (l Bs cap : Nat) (a : Option Addr) (J : List (Rg × Rg) → World → Prop) (W : World) (hBs : W.cell? ⟨Bs, 0, none⟩ = some (.slice a 0 cap)) (h0 : J [] W) :
    CallsIn Fence.wide n Try.prog 60 #[.func (.yield l) #[] #[], .pointer (some ⟨Bs, 0, none⟩)] W fun e W' => (∃ v, e = .returned v) ∧ J [] W' := by
  refine callsIn_of_wp Try.func60 rfl trivial ?_ rfl
  simp only [Try.ntmps60, List.size_toArray, List.length_cons, List.length_nil, Nat.reduceAdd, Nat.reduceSub, Array.replicate_succ, Array.replicate_zero, List.push_toArray, List.append_toArray, List.nil_append, List.cons_append]
  gi_wp2
  gi_loopw [3] (fun i wr => i = .int .i64 1 ∧ wr = W) (fun _ _ => 0)
  case atStart => exact ⟨rfl, rfl⟩
  case round =>
    obtain ⟨rfl, rfl⟩ := hrel
    gi_wp2
    go_end0
    exact ⟨⟨_, rfl⟩, h0⟩

set_option maxHeartbeats 1000000 in
/-- neighbours: the slice is boxed; the function value captures the box. -/
theorem nb_in (n : Nat) (a : Option Addr) (len cap : Nat) (w : World) :
    CallsIn Fence.wide n Try.prog 49 #[.slice a len cap] w fun e w' => e = .returned (.func (.func 60) #[] #[.pointer (some ⟨w.heap.size, 0, none⟩)]) ∧ w' = w.alloc (.cells #[.slice a len cap] 50) := by
  refine callsIn_of_wp Try.func49 rfl trivial ?_ rfl
  simp only [Try.ntmps49, List.size_toArray, List.length_cons, List.length_nil, Nat.reduceAdd, Nat.reduceSub, Array.replicate_succ, Array.replicate_zero, List.push_toArray, List.append_toArray, List.nil_append, List.cons_append]
  gi_wp2
  go_ret
  exact ⟨rfl, rfl⟩

/-- The pairs, in their order; or the first k of them, where a round has said no more. -/
theorem nb_stops (n : Nat) (hn : 1 ≤ n) (Bs n₀ : Nat) (a : Option Addr) (len cap : Nat) (T : Nat → Rg) (w : World) (hBs : Bs < n₀) (hn₀ : n₀ ≤ w.heap.size)
    (hc : w.cell? ⟨Bs, 0, none⟩ = some (.slice a len cap)) (hI : RgsIn n₀ w a len cap T) :
    SeqStopsK Fence.wide n Try.prog 60 #[.pointer (some ⟨Bs, 0, none⟩)] pairV (Below n₀) (fun ys => ys = upto (fun j => (T j, T (j + 1))) (len - 1))
      (fun pre => ∃ k, k ≤ len - 1 ∧ pre = upto (fun j => (T j, T (j + 1))) k) (len - 1) w := fun l J Jx W hW hJ _ hY h0 => by
  have hc' := (hW.cell (p := ⟨Bs, 0, none⟩) (Nat.lt_of_lt_of_le hBs hn₀)).trans hc
  obtain ⟨h1, h2, h3⟩ := hI.below (hW.mono hn₀)
  by_cases h0l : len = 0
  · subst h0l
    exact (nb1_nil_in n l Bs cap a J W hc' h0).mono fun e W' ⟨he, hj⟩ => ⟨he, .inl ⟨_, rfl, hj⟩⟩
  · rcases h3 with h3 | ⟨b, off, rfl, hb, hcs⟩
    · exact absurd h3 h0l
    · exact nb1_in n hn l Bs n₀ b off len cap T (by omega) hb (by omega) J Jx hY W hJ hBs hc' hcs h0

end Go.Proofs.Ytfnmpfaecafckaa

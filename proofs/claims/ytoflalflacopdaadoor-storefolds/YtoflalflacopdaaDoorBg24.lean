/-
  What a range comes to, plain; what is stored beside a store.
  heldIn.
  Entries taken one behind the other: plain.
  takeAll: entries taken one behind the other.
  Lacks, the code's.
  CheckParts, isOpening and Check, the code's.
  isOpening and Check, the code's.
  What is wrong with a part's entries: the document's own.
  What is wrong with one part, behind those ahead of it: the document's own.
  What is wrong with one part that has no fields but its own: the document's own (a Print).
  What is wrong with one part that has no fields but its own: the document's own (Items and Reply).
  CheckParts: the document's own.
  Check: the document's own.
  Rows of parts that a call owns: their cells, a list appended.
  What a store holds, told by the law's own loop.
  replyTo.
  Same of the document's: frames that are the same.
  Plain mathematics: the order of texts, told by numbers for finitely many texts at a time.
  The iterator over neighbours: what it hands to a loop's body, over every slice of ranges.
  Meet, the code's: it returns what the plain function gives, and writes nothing that was there.
  slices.ContainsFunc of Empty over every slice of ranges.
  Rising, the code's: it returns what the plain function gives, and writes nothing that was there.
-/
import Derived.Test.YtoflalflacopdaaDoorBg23
import Derived.Test.YtoflalflacopdaaDoorBg20
import Derived.Test.YtoflalflacopdaaDoorBg21
import Derived.Test.YtoflalflacopdaaDoorBg1
import Derived.Deep.CutBlock
import Derived.Deep.DeepCutAuto
import Derived.OwnWalk
import Derived.Laws.OwnMore
import Derived.Deep.Cut
import Derived.Test.YtoflalflacopdaaDoorBg15
import Derived.RangeFuncNested
import Derived.RangeFuncBound
import Derived.RangeFuncCalls
import Derived.RangeFuncLeaves
import Derived.Shelf.Abstract
import Derived.Shelf.RegionOpen
import Derived.OwnWalkIn
import Derived.TacticsInMore
import Derived.LoopNIn
import Derived.LoopIn
import Derived.Stop.RegionWithIn
import Derived.Laws.ResultCell
namespace Go.Proofs.YtoflalflacopdaaDoor
open Go.RowKit
set_option linter.unusedVariables false
theorem rev_ind {P : List En → Prop} (h0 : P []) (hs : ∀ l e, P l → P (l ++ [e])) (l : List En) : P l := by
  have h : ∀ r : List En, P r.reverse := by
    intro r
    induction r with
    | nil => exact h0
    | cons e r ih => rw [List.reverse_cons]; exact hs _ _ ih
  have := h l.reverse
  rwa [List.reverse_reverse] at this
theorem tal_a (l : List En) : (talL l).a = allI f0 l := by
  refine rev_ind (P := fun l => (talL l).a = allI f0 l) ?_ (fun l e ih => ?_) l
  · rw [allI_nil]; rfl
  · rw [talL_append, talL_one, ← tJoin_a, allI_snoc, ih, tof_a]; rfl
theorem tal_b (l : List En) : (talL l).b = allI f1 l := by
  refine rev_ind (P := fun l => (talL l).b = allI f1 l) ?_ (fun l e ih => ?_) l
  · rw [allI_nil]; rfl
  · rw [talL_append, talL_one, ← tJoin_b, allI_snoc, ih, tof_b]; rfl
theorem tal_n (l : List En) (h : l.length ≤ 1000000000) : (talL l).n = (l.length : Int) := by
  have : ∀ l : List En, l.length ≤ 1000000000 → (talL l).n = (l.length : Int) := by
    intro l
    refine rev_ind (P := fun l => l.length ≤ 1000000000 → (talL l).n = (l.length : Int)) (fun _ => rfl) (fun l e ih hl => ?_) l
    rw [List.length_append, List.length_singleton] at hl
    rw [talL_append, talL_one, ← tJoin_n, ih (by omega), tof_n, List.length_append, List.length_singleton, IntKind.wrap_i64]
    omega
  exact this l h
/-- What entries come to, in memory. -/
def tlV (t : Tl) : Value := .agg #[.int .i64 t.n, .int .u64 t.a, .int .u64 t.b]
theorem talT_tl (l : List En) (h : l.length ≤ 1000000000) : talT (nthE l) l.length = tlV (talL l) := by
  unfold talT tlV
  rw [firstE_nth, tal_n l h, tal_a, tal_b]
/-- A row of entries as a list in memory. -/
theorem own_ents {w : World} {B : Nat} {v : Value} {l : List En} (h2 : w.ownsRow B 33 5 v l.length (entCells l)) (hk : KeysOk l) : ∃ a c, v = .slice a l.length c ∧ EntsIn w a l.length c (nthE l) := by
  obtain ⟨a, c, rfl, -, -, -⟩ := own_slice h2
  rcases h2.2 with ⟨h3, h4⟩ | ⟨g, cap, cur, h3, h4⟩
  · refine ⟨a, c, rfl, ?_⟩
    simp only [Value.slice.injEq] at h3
    obtain ⟨rfl, h6, rfl⟩ := h3
    rw [h4]
    exact ⟨by omega, by unfold maxLen; omega, .inl rfl⟩
  · simp only [Value.slice.injEq] at h3
    obtain ⟨rfl, -, rfl⟩ := h3
    obtain ⟨m1, m2⟩ := row_max h2
    have := ents_of_row h2 hk (o := 0) (m := l.length) (c := c) (by omega) m1 m2 (a := some ⟨g, 0, none⟩) (.inr (by simp))
    simp only [Nat.zero_add] at this
    exact ⟨_, _, rfl, this⟩
theorem fold_out {lo hi : ByteArray} {op : Bool} {l : List En} (hm : MapL l) : foldV lo hi op l = talL (outL (Rg.chk ⟨lo, hi, op⟩) (inL ⟨lo, hi, op⟩ l)) := by
  unfold foldV outL
  by_cases h : Rg.chk ⟨lo, hi, op⟩ = 0
  · rw [if_pos h, if_pos h, inL_thru h hm]
  · rw [if_neg h, if_neg h]; rfl
/-- A block of another kind is stored over: the store stays. -/
theorem Sto.set {w w' : World} {sb g tb : Nat} {nd ck : Int} {Ls : List En} (h : Sto w sb g tb nd ck Ls) {i : Nat} {cs : Array Value} {U : TypeId} (hi : w.heap[i]? = some (.cells cs U (0, 0))) (h1 : U ≠ 89) (h2 : U ≠ 140) (h3 : U ≠ 184) (h4 : U ≠ 135) (k : Keeps (fun x => x = i) w w') : Sto w' sb g tb nd ck Ls := by
  obtain ⟨T, n, hs, hH⟩ := h
  have hn := hs.not hi h1 h2 h3
  unfold Of at hn
  refine ⟨T, n, ⟨blk_keep hs.blk k (fun e => hn (.inl e.symm)), hs.cnt.keep k (fun b e => by cases e; exact fun e => hn (.inr (.inr e.symm))), hs.tree.keep k (fun e => hn (.inr (.inl e.symm))) (fun j cs' hj e => ?_)⟩, hH⟩
  subst e
  rw [hj] at hi
  simp only [Option.some.injEq, Obj.cells.injEq] at hi
  exact h4 hi.2.1.symm
/-- What is wrong with a range that is to be told of. -/
def prErr (r : Rg) : Int := if r.chk ≠ 0 then r.chk else if r.emp = true then 115 else 0
end Go.Proofs.YtoflalflacopdaaDoor
namespace Go.Proofs.YtoflalflacopdaaDoor
open Go.RowKit
set_option linter.unusedVariables false
end Go.Proofs.YtoflalflacopdaaDoor
namespace Go.Proofs.YtoflalflacopdaaDoor
open Go.RowKit
set_option linter.unusedVariables false
/-- A store's entries and clock, how many were taken, how many refused. -/
structure TkS where
  l : List En
  c : Int
  n : Nat
  f : Nat
def tkStep (s : TkS) (e : En) : TkS := if (tkSay e s.l).2 = true then ⟨insE e s.l, ckm s.c e.c, s.n + 1, s.f⟩ else if (tkSay e s.l).1 = 80 then ⟨s.l, s.c, s.n, s.f + 1⟩ else s
def tkAll (s : TkS) (l : List En) : TkS := l.foldl tkStep s
theorem tkAll_snoc (s : TkS) (l : List En) (e : En) : tkAll s (l ++ [e]) = tkStep (tkAll s l) e := by simp [tkAll]
theorem tkAll_succ (s : TkS) (T : Nat → En) (j : Nat) : tkAll s (firstE T (j + 1)) = tkStep (tkAll s (firstE T j)) (T j) := by rw [firstE_succ, tkAll_snoc]
theorem tk_yes {e : En} {Ls : List En} (h : (tkSay e Ls).2 = true) : (tkSay e Ls).1 = 0 ∧ e.chk = 0 ∧ roomB e.k Ls = true := by
  unfold tkSay at h ⊢
  by_cases h1 : e.chk ≠ 0
  · rw [if_pos h1] at h; simp at h
  · rw [if_neg h1] at h ⊢
    by_cases h2 : roomB e.k Ls = false
    · rw [if_pos h2] at h; simp at h
    · rw [if_neg h2]
      refine ⟨?_, by simpa using h1, by simpa using h2⟩
      cases lookE e.k Ls <;> rfl
end Go.Proofs.YtoflalflacopdaaDoor
namespace Go.Proofs.YtoflalflacopdaaDoor
open Go.RowKit
set_option linter.unusedVariables false
end Go.Proofs.YtoflalflacopdaaDoor
namespace Go.Proofs.YtoflalflacopdaaDoor
open Go.RowKit Go.Shelf
set_option linter.unusedVariables false
attribute [local go_sem] Oper.semAt_some
end Go.Proofs.YtoflalflacopdaaDoor
namespace Go.Proofs.YtoflalflacopdaaDoor
open Go.RowKit
set_option linter.unusedVariables false
end Go.Proofs.YtoflalflacopdaaDoor
namespace Go.Proofs.YtoflalflacopdaaDoor
open Go.RowKit
set_option linter.unusedVariables false
section
variable {fr tzz o l n tn : Int} {P : Nat → Pm} {len : Nat}
end
end Go.Proofs.YtoflalflacopdaaDoor
namespace Go.Proofs.YtoflalflacopdaaDoor
open Go.RowKit
set_option linter.unusedVariables false
end Go.Proofs.YtoflalflacopdaaDoor
namespace Go.Proofs.YtoflalflacopdaaDoor
open Go.RowKit
set_option linter.unusedVariables false
end Go.Proofs.YtoflalflacopdaaDoor
namespace Go.Proofs.YtoflalflacopdaaDoor
open Go.RowKit
set_option linter.unusedVariables false
end Go.Proofs.YtoflalflacopdaaDoor
namespace Go.Proofs.YtoflalflacopdaaDoor
open Go.RowKit
set_option linter.unusedVariables false
end Go.Proofs.YtoflalflacopdaaDoor
namespace Go.Proofs.YtoflalflacopdaaDoor
open Go.RowKit
set_option linter.unusedVariables false
end Go.Proofs.YtoflalflacopdaaDoor
namespace Go.Proofs.YtoflalflacopdaaDoor
open Go.RowKit
set_option linter.unusedVariables false
end Go.Proofs.YtoflalflacopdaaDoor
namespace Go.Proofs.YtoflalflacopdaaDoor
open Go.RowKit
set_option linter.unusedVariables false
end Go.Proofs.YtoflalflacopdaaDoor
namespace Go.Proofs.YtoflalflacopdaaDoor
open Go.RowKit Go.Shelf
set_option linter.unusedVariables false
attribute [local go_sem] Oper.semAt_some
end Go.Proofs.YtoflalflacopdaaDoor
namespace Go.Proofs.YtoflalflacopdaaDoor
open Go.RowKit
set_option linter.unusedVariables false
theorem thru_len (lo hi : ByteArray) (op : Bool) (l : List En) : (thruL lo hi op true l).length ≤ l.length := by
  unfold thruL
  exact Nat.le_trans (List.length_filter_le _ _) (List.length_filter_le _ _)
end Go.Proofs.YtoflalflacopdaaDoor
namespace Go.Proofs.YtoflalflacopdaaDoor
open Go.RowKit
set_option linter.unusedVariables false
end Go.Proofs.YtoflalflacopdaaDoor
namespace Go.Proofs.YtoflalflacopdaaDoor
theorem countP_lt {α : Type} (p q : α → Bool) : ∀ (S : List α) (x : α), (∀ z, p z = true → q z = true) → x ∈ S → p x = false → q x = true → S.countP p < S.countP q
  | s :: S, x, h, hm, hp, hq => by
    rcases List.mem_cons.1 hm with rfl | hm
    · have := List.countP_mono_left (p := p) (q := q) (l := S) (fun z _ hz => h z hz)
      simp [hp, hq]; omega
    · have := countP_lt p q S x h hm hp hq
      cases hs : p s
      · cases hs2 : q s <;> simp [hs, hs2] <;> omega
      · simp [hs, h s hs]; omega
/-- A text's place among some texts. -/
def rk (S : List (List UInt8)) (x : List UInt8) : Nat := S.countP fun z => Op.bytesLess z x
theorem rk_of_lt {S : List (List UInt8)} {x y : List UInt8} (hx : x ∈ S) (h : Op.bytesLess x y = true) : rk S x < rk S y :=
  countP_lt _ _ S x (fun z hz => L_trans z x y hz h) hx (L_irrefl x) h
theorem rk_lt {S : List (List UInt8)} {x y : List UInt8} (hx : x ∈ S) (hy : y ∈ S) : Op.bytesLess x y = decide (rk S x < rk S y) := by
  cases h : Op.bytesLess x y
  · cases h2 : Op.bytesLess y x
    · rw [L_total x y h h2]; simp
    · have := rk_of_lt hy h2
      symm; apply decide_eq_false; omega
  · have := rk_of_lt hx h
    symm; exact decide_eq_true this
theorem rk_eq {S : List (List UInt8)} {x y : List UInt8} (hx : x ∈ S) (hy : y ∈ S) : (x == y) = decide (rk S x = rk S y) := by
  by_cases e : x = y
  · subst e; simp
  · have h1 := rk_lt hx hy; have h2 := rk_lt hy hx
    have : rk S x ≠ rk S y := by
      intro e2
      apply e
      apply L_total
      · rw [h1]; apply decide_eq_false; omega
      · rw [h2]; apply decide_eq_false; omega
    rw [decide_eq_false this]
    simpa using e
end Go.Proofs.YtoflalflacopdaaDoor
namespace Go.Proofs.YtoflalflacopdaaDoor
open Go.RowKit Go.Shelf
attribute [local go_sem] Oper.semAt_some
/-- What has come when k rounds are over. -/
def upto {α : Type} (f : Nat → α) (k : Nat) : List α := (List.range k).map f
theorem upto_succ {α : Type} (f : Nat → α) (k : Nat) : upto f (k + 1) = upto f k ++ [f k] := by simp [upto, List.range_succ]
theorem upto_length {α : Type} (f : Nat → α) (k : Nat) : (upto f k).length = k := by simp [upto]
/-- The ranges T 0, T 1 .. lie one behind the other, three cells each, below n₀. -/
def RgsIn (n₀ : Nat) (w : World) (a : Option Addr) (len cap : Nat) (T : Nat → Rg) : Prop :=
  len ≤ cap ∧ len * 40 ≤ 281474976710656 ∧ (len = 0 ∨ ∃ blk off, a = some ⟨blk, off, none⟩ ∧ blk < n₀ ∧ ∀ i, i < len →
    (w.cell? ⟨blk, off + i * 3, none⟩ = some (.string (T i).lo) ∧ w.cell? ⟨blk, off + i * 3 + 1, none⟩ = some (.string (T i).hi) ∧ w.cell? ⟨blk, off + i * 3 + 2, none⟩ = some (.bool (T i).op)))
theorem RgsIn.below {n₀ : Nat} {A B : World} (h : Below n₀ A B) {a : Option Addr} {len cap : Nat} {T : Nat → Rg} (hr : RgsIn n₀ A a len cap T) : RgsIn n₀ B a len cap T := by
  obtain ⟨h1, h2, h3⟩ := hr
  refine ⟨h1, h2, ?_⟩
  rcases h3 with h3 | ⟨blk, off, e, hb, hc⟩
  · exact .inl h3
  · exact .inr ⟨blk, off, e, hb, fun i hi => ⟨(h.cell (p := ⟨blk, off + i * 3, none⟩) hb).trans (hc i hi).1, (h.cell (p := ⟨blk, off + i * 3 + 1, none⟩) hb).trans (hc i hi).2.1, (h.cell (p := ⟨blk, off + i * 3 + 2, none⟩) hb).trans (hc i hi).2.2⟩⟩
def pairV (x : Rg × Rg) : Array Value := #[.agg #[.string x.1.lo, .string x.1.hi, .bool x.1.op], .agg #[.string x.2.lo, .string x.2.hi, .bool x.2.op]]
/-- How a round may end: it goes on, or it says no more. -/
def wentOn (n₀ : Nat) (W : World) (J Jx : List (Rg × Rg) → World → Prop) (xs : List (Rg × Rg)) (q : Bool) (W' : World) : Prop :=
  (q = true ∧ J xs W' ∧ Below n₀ W W') ∨ (q = false ∧ Jx xs W')
theorem grown_drew0 (w : World) : w.grownBy w.drew none := ⟨rfl, rfl, rfl, Nat.le_refl _, fun _ _ _ => rfl⟩
set_option maxRecDepth 100000 in
set_option maxHeartbeats 4000000 in
theorem nb1_in (n : Nat) (hn : 1 ≤ n) (l Bs n₀ b off len cap : Nat) (T : Nat → Rg) (hreach : len * 40 ≤ 281474976710656) (hb : b < n₀) (hlen : 0 < len) (J Jx : List (Rg × Rg) → World → Prop)
    (hY : ∀ pre x W, J pre W → pre.length < len - 1 → YieldAt Fence.wide (n - 1) Tryd.prog l (pairV x) W fun e W' =>
      (e = .returned (.bool true) ∧ J (pre ++ [x]) W' ∧ Below n₀ W W') ∨ (e = .returned (.bool false) ∧ Jx (pre ++ [x]) W'))
    (W : World) (hJ : AbidesFrom W.heap.size J) (hBb : Bs < n₀) (hBs : W.cell? ⟨Bs, 0, none⟩ = some (.slice (some ⟨b, off, none⟩) len cap))
    (hc : ∀ i, i < len → (W.cell? ⟨b, off + i * 3, none⟩ = some (.string (T i).lo) ∧ W.cell? ⟨b, off + i * 3 + 1, none⟩ = some (.string (T i).hi) ∧ W.cell? ⟨b, off + i * 3 + 2, none⟩ = some (.bool (T i).op))) (h0 : J [] W) :
    CallsIn Fence.wide n Tryd.prog 80 #[.func (.yield l) #[] #[], .pointer (some ⟨Bs, 0, none⟩)] W fun e W' => (∃ v, e = .returned v) ∧
      ((∃ ys, ys = upto (fun j => (T j, T (j + 1))) (len - 1) ∧ J ys W') ∨ (∃ pre, (∃ k, k ≤ len - 1 ∧ pre = upto (fun j => (T j, T (j + 1))) k) ∧ Jx pre W')) := by
  refine callsIn_of_wp Tryd.func80 rfl trivial ?_ rfl
  simp only [Tryd.ntmps80, List.size_toArray, List.length_cons, List.length_nil, Nat.reduceAdd, Nat.reduceSub, Array.replicate_succ, Array.replicate_zero, List.push_toArray, List.append_toArray, List.nil_append, List.cons_append]
  gi_wp2
  gi_loopw [3] (fun i wr => ∃ k : Nat, k + 1 ≤ len ∧ i = .int .i64 ((k : Int) + 1) ∧ J (upto (fun j => (T j, T (j + 1))) k) wr ∧ Below n₀ W wr)
    (fun i _ => len - (intOf i).toNat)
  case atStart => exact ⟨0, by omega, rfl, h0, Below.refl _ _⟩
  case round =>
    obtain ⟨k, hk, rfl, hJs, hnx⟩ := hrel
    have hs := (hnx.cell (p := ⟨Bs, 0, none⟩) hBb).trans hBs
    by_cases hlt : k + 1 < len
    · obtain ⟨c0, c1, c2⟩ := hc k (by omega)
      obtain ⟨d0, d1, d2⟩ := hc (k + 1) (by omega)
      have c0' := (hnx.cell (p := ⟨b, off + k * 3, none⟩) hb).trans c0
      have c1' := (hnx.cell (p := ⟨b, off + k * 3 + 1, none⟩) hb).trans c1
      have c2' := (hnx.cell (p := ⟨b, off + k * 3 + 2, none⟩) hb).trans c2
      have d0' := (hnx.cell (p := ⟨b, off + (k + 1) * 3, none⟩) hb).trans d0
      have d1' := (hnx.cell (p := ⟨b, off + (k + 1) * 3 + 1, none⟩) hb).trans d1
      have d2' := (hnx.cell (p := ⟨b, off + (k + 1) * 3 + 2, none⟩) hb).trans d2
      obtain ⟨fn, tmps, assign, body, hy, hR⟩ := hY _ (T k, T (k + 1)) wr.drew (hJ _ _ _ none hJs (grown_drew0 wr) (fun r e => by cases e)) (by rw [upto_length]; omega)
      dsimp only [pairV] at hy
      have hQ := hR.mono (R' := fun e W' => ∃ q : Bool, e = .returned (.bool q) ∧ wentOn n₀ wr.drew J Jx (upto (fun j => (T j, T (j + 1))) k ++ [(T k, T (k + 1))]) q W') (fun e W' h => by
        rcases h with ⟨rfl, h1, h2⟩ | ⟨rfl, h1⟩
        · exact ⟨true, rfl, .inl ⟨rfl, h1, h2⟩⟩
        · exact ⟨false, rfl, .inr ⟨rfl, h1⟩⟩)
      clear hc c0 c1 c2 d0 d1 d2 hY hBs hR
      have hlt' : (k : Int) + 1 < (len : Int) := by omega
      have hk0 : (0 : Int) ≤ (k : Int) := by omega
      have hk1 : (k : Int) < (len : Int) := by omega
      have hk2 : (0 : Int) ≤ (k : Int) + 1 := by omega
      have hw2 : IntKind.i64.wrap (k : Int) = (k : Int) := by simp only [IntKind.wrap_i64]; omega
      gi_wp2
      gi_region_with (refine hQ.mono ?_; rintro e W3 ⟨q, rfl, hq⟩)
      all_goals
        clear hy hQ hw2
        rcases hq with ⟨rfl, hJ3, hk3⟩ | ⟨rfl, hJx3⟩
        · gi_wp2
          go_roundw
          case rel => exact ⟨k + 1, by omega, by go_num, by rw [upto_succ]; exact hJ3, hnx.drew.trans hk3⟩
          case measure => simp [intOf]; omega
        · gi_wp2
          refine bodyPost_ret (results_none rfl _ _ _) rfl ?_
          exact ⟨⟨_, rfl⟩, .inr ⟨_, ⟨k + 1, by omega, (upto_succ _ _).symm⟩, hJx3⟩⟩
    · obtain rfl : len = k + 1 := by omega
      have hge : ¬ ((k : Int) + 1 < ((k + 1 : Nat) : Int)) := by omega
      gi_wp2
      go_end0
      exact ⟨⟨_, rfl⟩, .inl hJs⟩
set_option maxRecDepth 100000 in
set_option maxHeartbeats 1000000 in
/-- No range: no round. -/
theorem nb1_nil_in (n : Nat) (l Bs cap : Nat) (a : Option Addr) (J : List (Rg × Rg) → World → Prop) (W : World) (hBs : W.cell? ⟨Bs, 0, none⟩ = some (.slice a 0 cap)) (h0 : J [] W) :
    CallsIn Fence.wide n Tryd.prog 80 #[.func (.yield l) #[] #[], .pointer (some ⟨Bs, 0, none⟩)] W fun e W' => (∃ v, e = .returned v) ∧ J [] W' := by
  refine callsIn_of_wp Tryd.func80 rfl trivial ?_ rfl
  simp only [Tryd.ntmps80, List.size_toArray, List.length_cons, List.length_nil, Nat.reduceAdd, Nat.reduceSub, Array.replicate_succ, Array.replicate_zero, List.push_toArray, List.append_toArray, List.nil_append, List.cons_append]
  gi_wp2
  gi_loopw [3] (fun i wr => i = .int .i64 1 ∧ wr = W) (fun _ _ => 0)
  case atStart => exact ⟨rfl, rfl⟩
  case round =>
    obtain ⟨rfl, rfl⟩ := hrel
    gi_wp2
    go_end0
    exact ⟨⟨_, rfl⟩, h0⟩
set_option maxHeartbeats 1000000 in
/-- neighbours: the slice is boxed; the function value captures the box. -/
theorem nb_in (n : Nat) (a : Option Addr) (len cap : Nat) (w : World) :
    CallsIn Fence.wide n Tryd.prog 43 #[.slice a len cap] w fun e w' => e = .returned (.func (.func 80) #[] #[.pointer (some ⟨w.heap.size, 0, none⟩)]) ∧ w' = w.alloc (.cells #[.slice a len cap] 47) := by
  refine callsIn_of_wp Tryd.func43 rfl trivial ?_ rfl
  simp only [Tryd.ntmps43, List.size_toArray, List.length_cons, List.length_nil, Nat.reduceAdd, Nat.reduceSub, Array.replicate_succ, Array.replicate_zero, List.push_toArray, List.append_toArray, List.nil_append, List.cons_append]
  gi_wp2
  go_ret
  exact ⟨rfl, rfl⟩
/-- The pairs, in their order; or the first k of them, where a round has said no more. -/
theorem nb_stops (n : Nat) (hn : 1 ≤ n) (Bs n₀ : Nat) (a : Option Addr) (len cap : Nat) (T : Nat → Rg) (w : World) (hBs : Bs < n₀) (hn₀ : n₀ ≤ w.heap.size)
    (hc : w.cell? ⟨Bs, 0, none⟩ = some (.slice a len cap)) (hI : RgsIn n₀ w a len cap T) :
    SeqStopsK Fence.wide n Tryd.prog 80 #[.pointer (some ⟨Bs, 0, none⟩)] pairV (Below n₀) (fun ys => ys = upto (fun j => (T j, T (j + 1))) (len - 1))
      (fun pre => ∃ k, k ≤ len - 1 ∧ pre = upto (fun j => (T j, T (j + 1))) k) (len - 1) w := fun l J Jx W hW hJ _ hY h0 => by
  have hc' := (hW.cell (p := ⟨Bs, 0, none⟩) (Nat.lt_of_lt_of_le hBs hn₀)).trans hc
  obtain ⟨h1, h2, h3⟩ := hI.below (hW.mono hn₀)
  by_cases h0l : len = 0
  · subst h0l
    exact (nb1_nil_in n l Bs cap a J W hc' h0).mono fun e W' ⟨he, hj⟩ => ⟨he, .inl ⟨_, rfl, hj⟩⟩
  · rcases h3 with h3 | ⟨b, off, rfl, hb, hcs⟩
    · exact absurd h3 h0l
    · exact nb1_in n hn l Bs n₀ b off len cap T (by omega) hb (by omega) J Jx hY W hJ hBs hc' hcs h0
end Go.Proofs.YtoflalflacopdaaDoor
namespace Go.Proofs.YtoflalflacopdaaDoor
open Go.RowKit
/-- A block of three cells, as the walk asks for it. -/
theorem box_out {W : World} {k : Nat} {a b c : Value} {t : TypeId} (h : W.heap[k]? = some (.cells #[a, b, c] t (0, 0))) :
    (W.cell? ⟨k, 0, none⟩ = some a ∧ W.cell? ⟨k, 1, none⟩ = some b ∧ W.cell? ⟨k, 2, none⟩ = some c) ∧ (W.frozen? ⟨k, 0, none⟩ = false ∧ W.frozen? ⟨k, 1, none⟩ = false ∧ W.frozen? ⟨k, 2, none⟩ = false) := by
  simp [World.cell?, World.frozen?, h]
theorem empty_at {lo hi : ByteArray} {op m : Bool} (h : Rg.emp ⟨lo, hi, op⟩ = m) (w : World) :
    Calls Tryd.prog 79 #[.agg #[.string lo, .string hi, .bool op]] w fun e w' => e = .returned (.bool m) ∧ Below w.heap.size w w' := by
  subst h; exact empty_any lo hi op w
theorem heap_new (w : World) (o : Obj) : (w.alloc o).heap[w.heap.size]? = some o := heap_alloc_new w o
theorem lies {w : World} {k : Nat} {o : Obj} (h : w.heap[k]? = some o) : k < w.heap.size := (Array.getElem?_eq_some_iff.1 h).1
theorem keep {k : Nat} {w1 w2 : World} {o : Obj} (h : w1.heap[k]? = some o) (b : Below w1.heap.size w1 w2) : w2.heap[k]? = some o :=
  (b.block k (Array.getElem?_eq_some_iff.1 h).1).trans h
theorem keepA {k : Nat} {w1 : World} {o p : Obj} (h : w1.heap[k]? = some o) : (w1.alloc p).heap[k]? = some o :=
  (Below.heap_alloc w1 p k (Array.getElem?_eq_some_iff.1 h).1).trans h
theorem two_new {w w1 : World} {o1 o2 : Obj} (b : Below ((w.alloc o1).alloc o2).heap.size ((w.alloc o1).alloc o2) w1) :
    w1.heap[w.heap.size]? = some o1 ∧ w1.heap[w.heap.size + 1]? = some o2 ∧ Below w.heap.size w w1 := by
  have e1 : (w.alloc o1).heap.size = w.heap.size + 1 := by simp
  refine ⟨keep (keepA (heap_new w o1)) b, ?_, bthen (bthen (bnew w o1) (bnew _ o2)) b⟩
  have h := heap_new (w.alloc o1) o2
  rw [e1] at h
  exact keep h b
end Go.Proofs.YtoflalflacopdaaDoor
namespace Go.Proofs.YtoflalflacopdaaDoor
open Go.RowKit
/-- Is one of the first n ranges empty? -/
def anyE (T : Nat → Rg) (n : Nat) : Bool := (List.range n).any fun i => (T i).emp
theorem anyE_false {T : Nat → Rg} {n : Nat} (h : ∀ j, j < n → (T j).emp = false) : anyE T n = false := by
  simp only [anyE, List.any_eq_false, List.mem_range]
  intro j hj; simp [h j hj]
theorem anyE_true {T : Nat → Rg} {n j : Nat} (hj : j < n) (h : (T j).emp = true) : anyE T n = true := by
  simp only [anyE, List.any_eq_true, List.mem_range]
  exact ⟨j, hj, h⟩
set_option maxRecDepth 100000 in
set_option maxHeartbeats 2000000 in
theorem idx_any (a : Option Addr) (len cap : Nat) (T : Nat → Rg) (w : World) (h : RgsIn w.heap.size w a len cap T) :
    Calls Tryd.prog 105 #[.slice a len cap, .func (.func 79) #[] #[]] w fun e w' => ∃ i : Int, e = .returned (.int .i64 i) ∧ decide (0 ≤ i) = anyE T len ∧ Below w.heap.size w w' := by
  obtain ⟨hlc, hcm, hh⟩ := h
  go_enter Tryd.func105, Tryd.ntmps105
  go_wp2
  go_loopw [8] (fun i wr => ∃ k : Nat, k ≤ len ∧ i = .int .i64 (k : Int) ∧ Hid (∀ j, j < k → (T j).emp = false) ∧ Below w.heap.size w wr) (fun i _ => len - (intOf i).toNat)
  case atStart => exact ⟨0, Nat.zero_le _, rfl, fun j hj => by omega, Below.refl _ _⟩
  case round =>
    obtain ⟨k, hk, rfl, hall, hnx⟩ := hrel
    by_cases hlt : (k : Int) < (len : Int)
    · rcases hh with hh | ⟨b, off, rfl, hb, hc⟩
      · omega
      · obtain ⟨c0, c1, c2⟩ := hc k (by omega)
        have c0' := (hnx.cell (p := ⟨b, off + k * 3, none⟩) hb).trans c0
        have c1' := (hnx.cell (p := ⟨b, off + k * 3 + 1, none⟩) hb).trans c1
        have c2' := (hnx.cell (p := ⟨b, off + k * 3 + 2, none⟩) hb).trans c2
        clear hc c0 c1 c2
        have hk0 : (0 : Int) ≤ (k : Int) := by omega
        cases he : Rg.emp ⟨(T k).lo, (T k).hi, (T k).op⟩
        · have CE := aside (fun w => empty_at he w)
          have HE := aside (show (T k).emp = false from he)
          clear he
          go_wp2_with fail
          refine (CE.out _).mono ?_
          rintro e w1 ⟨rfl, b1⟩
          have hn2 := hnx.trans (b1.mono hnx.size)
          clear c0' c1' c2' CE b1
          go_wp2
          go_roundw
          case rel => exact ⟨k + 1, by omega, by go_num, fun j hj => by
            by_cases e : j = k
            · rw [e]; exact HE.out
            · exact hall.out j (by omega), hn2⟩
          case measure => simp [intOf]; omega
        · have CE := aside (fun w => empty_at he w)
          have HE := aside (show (T k).emp = true from he)
          clear he
          go_wp2_with fail
          refine (CE.out _).mono ?_
          rintro e w1 ⟨rfl, b1⟩
          have hn2 := hnx.trans (b1.mono hnx.size)
          clear c0' c1' c2' CE b1
          go_wp2
          go_ret
          exact ⟨(k : Int), rfl, by rw [anyE_true (j := k) (by omega) HE.out]; exact decide_eq_true hk0, hn2⟩
    · obtain rfl : len = k := by omega
      go_wp2
      go_ret
      exact ⟨-1, rfl, by rw [anyE_false hall.out]; rfl, hnx⟩
set_option maxRecDepth 100000 in
set_option maxHeartbeats 1000000 in
theorem contains_any (a : Option Addr) (len cap : Nat) (T : Nat → Rg) (w : World) (h : RgsIn w.heap.size w a len cap T) :
    Calls Tryd.prog 78 #[.slice a len cap, .func (.func 79) #[] #[]] w fun e w' => e = .returned (.bool (anyE T len)) ∧ Below w.heap.size w w' := by
  have C := aside (fun w h => idx_any a len cap T w h)
  have H := aside h
  clear h
  go_enter Tryd.func78, Tryd.ntmps78
  go_wp2_with fail
  refine (C.out _ H.out).mono ?_
  rintro e w1 ⟨i, rfl, hi, b1⟩
  have HI := aside hi
  clear hi C H
  go_wp2
  go_ret
  exact ⟨ret_bool HI.out, b1⟩
end Go.Proofs.YtoflalflacopdaaDoor
namespace Go.Proofs.YtoflalflacopdaaDoor
open Go.RowKit Go.Shelf
attribute [local go_sem] Oper.semAt_some
/-- May the second of two neighbours stand behind the first? -/
def okP (x : Rg × Rg) : Bool := !(x.1.op || Op.bytesLess x.2.lo.toList x.1.hi.toList)
/-- Do the first n ranges rise? -/
def rises (T : Nat → Rg) (n : Nat) : Bool := !anyE T n && (upto (fun j => (T j, T (j + 1))) (n - 1)).all okP
theorem cells_kept {W W' : World} {row : Option Nat} {k : Nat} {cs : Array Value} {t : TypeId} {fr : Nat × Nat} (h : W.heap[k]? = some (.cells cs t fr)) (hg : W.grownBy W' row) (hrow : ∀ r, row = some r → ∃ o : Obj, W.heap[r]? = some o ∧ o.isCells = false) :
    W'.heap[k]? = some (.cells cs t fr) := (grownBy_keeps_cells hg hrow h rfl).trans h
theorem RgsIn.up {n₀ n₁ : Nat} {A B : World} (h : Below n₀ A B) (hn : n₀ ≤ n₁) {a : Option Addr} {len cap : Nat} {T : Nat → Rg} (hr : RgsIn n₀ A a len cap T) : RgsIn n₁ B a len cap T := by
  obtain ⟨h1, h2, h3⟩ := hr.below h
  refine ⟨h1, h2, ?_⟩
  rcases h3 with h3 | ⟨blk, off, e, hb, hc⟩
  · exact .inl h3
  · exact .inr ⟨blk, off, e, Nat.lt_of_lt_of_le hb hn, hc⟩
theorem box1_out {W : World} {k : Nat} {a : Value} {t : TypeId} (h : W.heap[k]? = some (.cells #[a] t (0, 0))) : W.cell? ⟨k, 0, none⟩ = some a ∧ W.frozen? ⟨k, 0, none⟩ = false := by
  simp [World.cell?, World.frozen?, h]
theorem rises_no {T : Nat → Rg} {len k : Nat} (hk : k ≤ len - 1) (h : (upto (fun j => (T j, T (j + 1))) k).all okP = false) : rises T len = false := by
  have : (upto (fun j => (T j, T (j + 1))) (len - 1)).all okP = false := by
    rw [Bool.eq_false_iff] at h ⊢
    intro h2
    apply h
    rw [List.all_eq_true] at h2 ⊢
    intro x hx
    apply h2
    simp only [upto, List.mem_map, List.mem_range] at hx ⊢
    obtain ⟨j, hj, e⟩ := hx
    exact ⟨j, by omega, e⟩
  simp [rises, this]
theorem contains_at {a : Option Addr} {len cap : Nat} {T : Nat → Rg} {q : Bool} (hq : anyE T len = q) (w : World) (h : RgsIn w.heap.size w a len cap T) :
    Calls Tryd.prog 78 #[.slice a len cap, .func (.func 79) #[] #[]] w fun e w' => e = .returned (.bool q) ∧ Below w.heap.size w w' := by
  subst hq; exact contains_any a len cap T w h
set_option maxRecDepth 100000 in
set_option maxHeartbeats 4000000 in
theorem rising_in (n : Nat) (hn : 3 ≤ n) (a : Option Addr) (len cap : Nat) (T : Nat → Rg) (w : World) (h : RgsIn w.heap.size w a len cap T) :
    CallsIn Fence.wide n Tryd.prog 42 #[.slice a len cap] w fun e w' => e = .returned (.bool (rises T len)) ∧ Below w.heap.size w w' := by
  have h1 : 1 ≤ n := by omega
  have H := aside h
  clear h
  cases hE : anyE T len
  · refine callsIn_of_wp_marks Tryd.func42 rfl trivial ?_ rfl
    simp only [Tryd.ntmps42, List.size_toArray, List.length_cons, List.length_nil, Nat.reduceAdd, Nat.reduceSub, Array.replicate_succ, Array.replicate_zero, List.push_toArray, List.append_toArray, List.nil_append, List.cons_append]
    gi_wp2
    refine ⟨trivial, ?_⟩
    refine (callsIn_wide.2 (contains_at hE _ (H.out.up (bnew w _) (by simp)))).mono ?_
    rintro e w1 ⟨rfl, b1⟩
    have kR := keep (heap_new w (.cells #[.bool false] 4)) b1
    have b01 := bthen (bnew w (.cells #[.bool false] 4)) b1
    obtain ⟨r0, r1⟩ := box1_out kR
    clear b1
    gi_wp2_with fail
    refine ⟨trivial, ?_⟩
    refine (nb_in (n - 1) _ _ _ _).mono ?_
    rintro e w' ⟨rfl, rfl⟩
    gi_wp2_with fail
    have kB := heap_new w1 (.cells #[.slice a len cap] 47)
    have kR0 := keepA (p := .cells #[.slice a len cap] 47) kR
    have b02 := bthen b01 (bnew w1 (.cells #[.slice a len cap] 47))
    have hsz : (w1.alloc (.cells #[.slice a len cap] 47)).heap.size = w1.heap.size + 1 := by simp
    have hs1 := lies kR
    obtain ⟨W0, hW0⟩ : ∃ W0, w1.alloc (.cells #[.slice a len cap] 47) = W0 := ⟨_, rfl⟩
    rw [hW0] at kB kR0 b02 hsz ⊢
    clear hW0 kR r0 r1
    have hRg : RgsIn (w1.heap.size + 1) W0 a len cap T := H.out.up b02 (by omega)
    refine wpIn_rangeFunc_ownH rfl h1 (gf := 80) (lb := #[.pointer (some ⟨w1.heap.size, 0, none⟩)]) rfl trivial (enters_of Tryd.func80 (by kernel_rfl) rfl)
      (nb_stops (n - 1) (by omega) w1.heap.size (w1.heap.size + 1) a len cap T W0 (by omega) (by omega) (box1_out kB).1 hRg) belowK_t (belowK_b (by omega)) (Below.refl _ _) (fun _ => rfl)
      (fun pre W => (pre.all okP = true ∧ W.heap[w.heap.size]? = some (.cells #[.bool false] 4 (0, 0))) ∧ (Below w.heap.size w W ∧ Below (w1.heap.size + 1) W0 W))
      (fun c pre W => (c = .ret ∧ pre.all okP = false ∧ W.heap[w.heap.size]? = some (.cells #[.bool false] 4 (0, 0))) ∧ Below w.heap.size w W)
      (OwnFrom.and (Own.from (fun s A B row hs hg hr => ⟨hs.1, cells_kept hs.2 hg hr⟩) _) (OwnFrom.and (ownFrom_below (Nat.le_refl _) (by omega)) (ownFrom_below (by omega) (by omega))))
      (fun c => OwnFrom.and (Own.from (fun s A B row hs hg hr => ⟨hs.1, hs.2.1, cells_kept hs.2.2 hg hr⟩) _) (ownFrom_below (Nat.le_refl _) (by omega)))
      ⟨⟨rfl, kR0⟩, b02, Below.refl _ _⟩
      (fun x a' W => ∃ B, (W.heap[B]? = some (.cells #[.string x.1.lo, .string x.1.hi, .bool x.1.op] 24 (0, 0)) ∧ W.heap[B + 1]? = some (.cells #[.string x.2.lo, .string x.2.hi, .bool x.2.op] 24 (0, 0))) ∧ a' = { tmps := #[.slice a len cap, undef, .pointer (some ⟨w.heap.size, 0, none⟩), .pointer (some ⟨B, 0, none⟩), .pointer (some ⟨B + 1, 0, none⟩), .slice a len cap, .bool false, .slice a len cap, .func (.func 80) #[] #[.pointer (some ⟨w1.heap.size, 0, none⟩)], .agg #[.string x.1.lo, .string x.1.hi, .bool x.1.op], .agg #[.string x.2.lo, .string x.2.hi, .bool x.2.op], undef, undef, undef, undef, undef, undef, undef, undef, undef], defers := [] })
      (fun x a' => Own.from (fun s A B row hs hg hr => by obtain ⟨k, ⟨h1, h2⟩, h3⟩ := hs; exact ⟨k, ⟨cells_kept h1 hg hr, cells_kept h2 hg hr⟩, h3⟩) _)
      ?assign ?body ?done ?stop
    case assign =>
      rintro l pre x W K ⟨⟨hp, hR⟩, hB, hB2⟩ hK
      dsimp only [pairV]
      gi_wp2
      have hW1 : W0.heap.size ≤ W.heap.size := hB2.size
      have k2 := heap_new (W.alloc (.cells #[.string x.1.lo, .string x.1.hi, .bool x.1.op] 24)) (.cells #[.string x.2.lo, .string x.2.hi, .bool x.2.op] 24)
      rw [World.size_alloc] at k2
      exact hK _ _ (((KeepsOthers.alloc _ _).trans (KeepsOthers.alloc _ _)).from _) (((Below.refl _ W).alloc (by omega) _).alloc (by simp; omega) _) ⟨⟨hp, keepA (keepA hR)⟩, (hB.alloc hB.size _).alloc (by have := hB.size; simp; omega) _, (hB2.alloc (by omega) _).alloc (by simp; omega) _⟩ ⟨W.heap.size, ⟨keepA (heap_new W _), k2⟩, rfl⟩
    case body =>
      rintro l pre x a' W hl ⟨r, hr⟩ ⟨⟨hp, hR⟩, hB, hB2⟩ ⟨B, ⟨k1, k2⟩, rfl⟩ hlt
      obtain ⟨⟨c0, c1, c2⟩, -⟩ := box_out k1
      obtain ⟨⟨d0, d1, d2⟩, -⟩ := box_out k2
      obtain ⟨r0, r1⟩ := box1_out hR
      obtain ⟨⟨lo1, hi1, op1⟩, ⟨lo2, hi2, op2⟩⟩ := x
      dsimp only at c0 c1 c2 d0 d1 d2 ⊢
      clear k1 k2 hr hlt
      cases op1
      · cases hl2 : Op.bytesLess lo2.toList hi1.toList
        · gi_wp2
          exact ⟨KeepsFrom.refl _ _, Below.refl _ _, ⟨by rw [List.all_append, hp]; simp [okP, hl2], hR⟩, hB, hB2⟩
        · gi_wp2
          exact ⟨(KeepsOthers.setCell _ _ _).from _, ⟨rfl, by rw [List.all_append]; simp [okP, hl2], (show Boxed W w.heap.size 4 (.bool false) from hR).set _⟩, hB.setCell (p := ⟨w.heap.size, 0, none⟩) (Nat.le_refl _) _⟩
      · gi_wp2
        exact ⟨(KeepsOthers.setCell _ _ _).from _, ⟨rfl, by rw [List.all_append]; simp [okP], (show Boxed W w.heap.size 4 (.bool false) from hR).set _⟩, hB.setCell (p := ⟨w.heap.size, 0, none⟩) (Nat.le_refl _) _⟩
    case done =>
      rintro D ys W hD rfl ⟨⟨hp, hR⟩, hB, hB2⟩ hK
      obtain ⟨r0, r1⟩ := box1_out hR
      gi_wp2
      have hK' := (KeepsOthers.setCell W ⟨w.heap.size, 0, none⟩ (.bool true)).same D _ hK rfl
      refine ⟨by simp, .inl ⟨_, _, rfl, run_takeDeferred hK', ?_⟩⟩
      have hc5 := cell_kept (World.cell?_setCell_same' W ⟨w.heap.size, 0, none⟩ (.bool true) (by rw [r0]; rfl)) (grownBy_putObj' _ D (.deferred none)) (fun r e => by cases e; exact ⟨_, hK', rfl⟩)
      refine ⟨.bool true, ?_, by rw [show rises T len = true from by simp only [rises, hE, hp]; rfl], (hB.setCell (p := ⟨w.heap.size, 0, none⟩) (by simp) _).trans (belowK_b (w := w) (Nat.le_refl _) _ D _ _ (by omega) hK' rfl rfl)⟩
      simp [results, Tryd.f42, go_sem, hc5]
    case stop =>
      rintro D c pre W hD ⟨k, hk, rfl⟩ ⟨⟨rfl, hp, hR⟩, hB⟩ hK
      obtain ⟨r0, r1⟩ := box1_out hR
      gi_wp2
      refine ⟨by simp, .inl ⟨_, _, rfl, run_takeDeferred hK, ?_⟩⟩
      have hc5 := cell_kept r0 (grownBy_putObj' _ D (.deferred none)) (fun r e => by cases e; exact ⟨_, hK, rfl⟩)
      refine ⟨.bool false, ?_, by rw [show rises T len = false from rises_no hk hp], hB.trans (belowK_b (w := w) (Nat.le_refl _) W D _ _ (by omega) hK rfl rfl)⟩
      simp [results, Tryd.f42, go_sem, hc5]
  · refine callsIn_of_wp_marks Tryd.func42 rfl trivial ?_ rfl
    simp only [Tryd.ntmps42, List.size_toArray, List.length_cons, List.length_nil, Nat.reduceAdd, Nat.reduceSub, Array.replicate_succ, Array.replicate_zero, List.push_toArray, List.append_toArray, List.nil_append, List.cons_append]
    gi_wp2
    refine ⟨trivial, ?_⟩
    refine (callsIn_wide.2 (contains_at hE _ (H.out.up (bnew w _) (by simp)))).mono ?_
    rintro e w1 ⟨rfl, b1⟩
    have kR := keep (heap_new w (.cells #[.bool false] 4)) b1
    have b01 := bthen (bnew w (.cells #[.bool false] 4)) b1
    obtain ⟨r0, r1⟩ := box1_out kR
    clear b1
    gi_wp2_with fail
    have r2 := World.cell?_setCell_same' w1 ⟨w.heap.size, 0, none⟩ (.bool false) (by rw [r0]; rfl)
    refine ⟨.bool false, by simp [results, Tryd.f42, go_sem, r2], ?_, b01.setCell (p := ⟨w.heap.size, 0, none⟩) (Nat.le_refl _) _⟩
    rw [show rises T len = false from by simp [rises, hE]]
theorem rising_any (a : Option Addr) (len cap : Nat) (T : Nat → Rg) (w : World) (h : RgsIn w.heap.size w a len cap T) :
    Calls Tryd.prog 42 #[.slice a len cap] w fun e w' => e = .returned (.bool (rises T len)) ∧ Below w.heap.size w w' :=
  (callsIn_wide (n := 3)).1 (rising_in 3 (Nat.le_refl _) a len cap T w h)
end Go.Proofs.YtoflalflacopdaaDoor

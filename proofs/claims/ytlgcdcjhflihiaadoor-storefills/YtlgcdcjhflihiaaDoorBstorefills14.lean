/-
  level (E).
  slices.Backward over nodes (E).
  An entry's five cells, set at once.
-/
import Derived.Test.YtlgcdcjhflihiaaDoorBstorefills10
import Derived.Test.YtlgcdcjhflihiaaDoorBstorefills11
import Derived.Test.YtlgcdcjhflihiaaDoorBstorefills12
import Derived.Test.YtlgcdcjhflihiaaDoorBstorefills13
import Derived.Test.YtlgcdcjhflihiaaDoorBstorefills3
import Derived.RangeFuncNested
import Derived.RangeFuncBound
import Derived.RangeFuncCalls
import Derived.RangeFuncLeaves
import Derived.RangeFuncWrites
import Derived.Shelf.Abstract
import Derived.Shelf.RegionOpen
import Derived.OwnWalkIn
import Derived.TacticsInMore
import Derived.LoopNIn
import Derived.LoopIn
import Derived.Stop.RegionWithIn
namespace Go.Proofs.YtlgcdcjhflihiaaDoor
open Go.RowKit
set_option linter.unusedVariables false

theorem turnRE {jv : Value} {c : Option Nat} (HB : BothOkE jv c) {w : World} {tb n : Nat} {root : Option Addr} {l r : Tr En Tl} {lp rp : Option Addr} (k : ByteArray) (v : En) (s : Tl)
    (ht : TObjE w tb jv root) (hc : CntE c n w) (hl : IsTE w lp l) (hr : IsTE w rp r) (hw : (Tr.node l k v s r).wt tSz ≤ 4611686018427387904) (hh : l.ht = r.ht + 2) :
    Calls Tryd.prog 93 #[.pointer (some ⟨tb, 0, none⟩), .agg #[.string k, .string v.k, .int .i64 v.c, .int .i64 v.n, .string v.v, .bool v.d, .int .i64 s.n, .int .u64 s.a, .int .u64 s.b], .pointer lp, .pointer rp] w fun e w' => ∃ p, e = .returned (.pointer p) ∧ IsTE w' p (Tr.turnR k v s l r) ∧ CntE c (n + Tr.turnRC l r) w' ∧ Keeps (OnC c) w w' := by
  cases l with
  | nil => simp [Tr.ht] at hh
  | node gl gk gv gs gr =>
    obtain ⟨bg, glp, grp, rfl, hg, hgl, hgr⟩ := hl
    simp only [Tr.wt] at hw
    by_cases hcmp : gr.ht ≤ gl.ht
    · simp only [Tr.turnR, Tr.turnRC, if_pos hcmp]
      refine (turnRAE HB k v s ht hc hg hgl hgr hr hcmp (by simp only [Tr.wt]; omega) (by simp only [Tr.wt]; omega)).mono fun e w' ⟨p, e1, e2, e3, e4⟩ => ⟨p, e1, e2, ?_, e4⟩
      rw [show Tr.hangC gl (gr.node k v s r) = if gl.isNil then 1 else 2 from by unfold Tr.hangC; cases gl.isNil <;> rfl] at e3
      rw [← Nat.add_assoc]
      exact e3
    · cases gr with
      | nil => simp [Tr.ht] at hcmp
      | node a ik iv is b =>
        simp only [Tr.turnR, Tr.turnRC, if_neg hcmp]
        have hgr' := hgr
        obtain ⟨bi, ap, bp, rfl, hi, ha, hb⟩ := hgr'
        simp only [Tr.wt] at hw
        refine (turnRBE HB k v s ht hc hg hi hgl ha hb hgr hr (by omega) (by simp only [Tr.wt]; omega) (by simp only [Tr.wt]; omega) (by simp only [Tr.wt]; omega)).mono fun e w' ⟨p, e1, e2, e3, e4⟩ => ⟨p, e1, e2, ?_, e4⟩
        rw [show Tr.hangC (gl.node gk gv gs a) (b.node k v s r) = 2 from rfl] at e3
        rw [← Nat.add_assoc, ← Nat.add_assoc]
        exact e3

theorem turnLE {jv : Value} {c : Option Nat} (HB : BothOkE jv c) {w : World} {tb n : Nat} {root : Option Addr} {l r : Tr En Tl} {lp rp : Option Addr} (k : ByteArray) (v : En) (s : Tl)
    (ht : TObjE w tb jv root) (hc : CntE c n w) (hl : IsTE w lp l) (hr : IsTE w rp r) (hw : (Tr.node l k v s r).wt tSz ≤ 4611686018427387904) (hh : r.ht = l.ht + 2) :
    Calls Tryd.prog 94 #[.pointer (some ⟨tb, 0, none⟩), .agg #[.string k, .string v.k, .int .i64 v.c, .int .i64 v.n, .string v.v, .bool v.d, .int .i64 s.n, .int .u64 s.a, .int .u64 s.b], .pointer lp, .pointer rp] w fun e w' => ∃ p, e = .returned (.pointer p) ∧ IsTE w' p (Tr.turnL k v s l r) ∧ CntE c (n + Tr.turnLC l r) w' ∧ Keeps (OnC c) w w' := by
  cases r with
  | nil => simp [Tr.ht] at hh
  | node gl gk gv gs gr =>
    obtain ⟨bg, glp, grp, rfl, hg, hgl, hgr⟩ := hr
    simp only [Tr.wt] at hw
    by_cases hcmp : gl.ht ≤ gr.ht
    · simp only [Tr.turnL, Tr.turnLC, if_pos hcmp]
      refine (turnLAE HB k v s ht hc hg hgr hgl hl hcmp (by simp only [Tr.wt]; omega) (by simp only [Tr.wt]; omega)).mono fun e w' ⟨p, e1, e2, e3, e4⟩ => ⟨p, e1, e2, ?_, e4⟩
      rw [show Tr.hangC (l.node k v s gl) gr = if gr.isNil then 1 else 2 from by unfold Tr.hangC; cases gr.isNil <;> rfl] at e3
      rw [← Nat.add_assoc]
      exact e3
    · cases gl with
      | nil => simp [Tr.ht] at hcmp
      | node a ik iv is b =>
        simp only [Tr.turnL, Tr.turnLC, if_neg hcmp]
        have hgl' := hgl
        obtain ⟨bi, ap, bp, rfl, hi, ha, hb⟩ := hgl'
        simp only [Tr.wt] at hw
        refine (turnLBE HB k v s ht hc hg hi hgr ha hb hgl hl (by omega) (by simp only [Tr.wt]; omega) (by simp only [Tr.wt]; omega) (by simp only [Tr.wt]; omega)).mono fun e w' ⟨p, e1, e2, e3, e4⟩ => ⟨p, e1, e2, ?_, e4⟩
        rw [show Tr.hangC (l.node k v s a) (b.node gk gv gs gr) = 2 from rfl] at e3
        rw [← Nat.add_assoc, ← Nat.add_assoc]
        exact e3

set_option maxHeartbeats 1600000 in
set_option maxRecDepth 100000 in
theorem levelAE {jv : Value} {c : Option Nat} (HB : BothOkE jv c) {w : World} {tb n : Nat} {root : Option Addr} {l r : Tr En Tl} {lp rp : Option Addr} (k : ByteArray) (v : En) (s : Tl)
    (ht : TObjE w tb jv root) (hc : CntE c n w) (hl : IsTE w lp l) (hr : IsTE w rp r) (hw : (Tr.node l k v s r).wt tSz ≤ 4611686018427387904) (hd : IntKind.i64.wrap ((l.ht : Int) - (r.ht : Int)) = 2) (hh : l.ht = r.ht + 2) :
    Calls Tryd.prog 79 #[.pointer (some ⟨tb, 0, none⟩), .agg #[.string k, .string v.k, .int .i64 v.c, .int .i64 v.n, .string v.v, .bool v.d, .int .i64 s.n, .int .u64 s.a, .int .u64 s.b], .pointer lp, .pointer rp] w fun e w' => ∃ p, e = .returned (.pointer p) ∧ IsTE w' p (Tr.turnR k v s l r) ∧ CntE c (n + Tr.turnRC l r) w' ∧ Keeps (OnC c) w w' := by
  have H := aside (lstE k v s ht hc)
  have HC := aside hc
  have CL := aside (fun (W : World) (h : Stay 120 w W) => levelsE (hl.on h))
  have CR := aside (fun (W : World) (h : Stay 120 w W) => levelsE (hr.on h))
  have HN := aside (turnRE HB k v s H.out.tobj H.out.cnt (hl.on H.out.stay) (hr.on H.out.stay) hw hh)
  generalize Tr.turnR k v s l r = T at *
  generalize Tr.turnRC l r = cst at *
  generalize (l.ht : Int) = hA at *
  generalize (r.ht : Int) = hB at *
  clear ht hc hl hr hw hh
  go_enter Tryd.func79, Tryd.ntmps79
  go_wp2_with fail
  refine (CL.out _ H.out.stay).mono ?_
  rintro e w1 ⟨rfl, rfl⟩
  go_wp2_with fail
  refine (CR.out _ H.out.stay).mono ?_
  rintro e w1 ⟨rfl, rfl⟩
  go_wp2_with fail
  refine HN.out.mono ?_
  rintro e w1 ⟨p, rfl, i1, bc, kk⟩
  have I1 := aside i1
  have BC := aside bc
  have KK := aside (H.out.keeps.trans kk)
  clear i1 bc kk HN CL CR H
  go_wp2
  exact bodyPost_ret (v := .pointer p) (by simp [results, Tryd.results79, go_sem]) rfl ⟨p, rfl, I1.out, BC.out, KK.out⟩

set_option maxHeartbeats 1600000 in
set_option maxRecDepth 100000 in
theorem levelBE {jv : Value} {c : Option Nat} (HB : BothOkE jv c) {w : World} {tb n : Nat} {root : Option Addr} {l r : Tr En Tl} {lp rp : Option Addr} (k : ByteArray) (v : En) (s : Tl)
    (ht : TObjE w tb jv root) (hc : CntE c n w) (hl : IsTE w lp l) (hr : IsTE w rp r) (hw : (Tr.node l k v s r).wt tSz ≤ 4611686018427387904) (hd : IntKind.i64.wrap ((l.ht : Int) - (r.ht : Int)) = -2) (hh : r.ht = l.ht + 2) :
    Calls Tryd.prog 79 #[.pointer (some ⟨tb, 0, none⟩), .agg #[.string k, .string v.k, .int .i64 v.c, .int .i64 v.n, .string v.v, .bool v.d, .int .i64 s.n, .int .u64 s.a, .int .u64 s.b], .pointer lp, .pointer rp] w fun e w' => ∃ p, e = .returned (.pointer p) ∧ IsTE w' p (Tr.turnL k v s l r) ∧ CntE c (n + Tr.turnLC l r) w' ∧ Keeps (OnC c) w w' := by
  have H := aside (lstE k v s ht hc)
  have HC := aside hc
  have CL := aside (fun (W : World) (h : Stay 120 w W) => levelsE (hl.on h))
  have CR := aside (fun (W : World) (h : Stay 120 w W) => levelsE (hr.on h))
  have HN := aside (turnLE HB k v s H.out.tobj H.out.cnt (hl.on H.out.stay) (hr.on H.out.stay) hw hh)
  generalize Tr.turnL k v s l r = T at *
  generalize Tr.turnLC l r = cst at *
  generalize (l.ht : Int) = hA at *
  generalize (r.ht : Int) = hB at *
  clear ht hc hl hr hw hh
  go_enter Tryd.func79, Tryd.ntmps79
  go_wp2_with fail
  refine (CL.out _ H.out.stay).mono ?_
  rintro e w1 ⟨rfl, rfl⟩
  go_wp2_with fail
  refine (CR.out _ H.out.stay).mono ?_
  rintro e w1 ⟨rfl, rfl⟩
  go_wp2_with fail
  refine HN.out.mono ?_
  rintro e w1 ⟨p, rfl, i1, bc, kk⟩
  have I1 := aside i1
  have BC := aside bc
  have KK := aside (H.out.keeps.trans kk)
  clear i1 bc kk HN CL CR H
  go_wp2
  exact bodyPost_ret (v := .pointer p) (by simp [results, Tryd.results79, go_sem]) rfl ⟨p, rfl, I1.out, BC.out, KK.out⟩

set_option maxHeartbeats 1600000 in
set_option maxRecDepth 100000 in
theorem levelCE {jv : Value} {c : Option Nat} (HB : BothOkE jv c) {w : World} {tb n : Nat} {root : Option Addr} {l r : Tr En Tl} {lp rp : Option Addr} (k : ByteArray) (v : En) (s : Tl)
    (ht : TObjE w tb jv root) (hc : CntE c n w) (hl : IsTE w lp l) (hr : IsTE w rp r) (hw : (Tr.node l k v s r).wt tSz ≤ 4611686018427387904) (hd : wrap64 ((l.ht : Int) - (r.ht : Int)) ≠ 2) (hd2 : wrap64 ((l.ht : Int) - (r.ht : Int)) ≠ -2) :
    Calls Tryd.prog 79 #[.pointer (some ⟨tb, 0, none⟩), .agg #[.string k, .string v.k, .int .i64 v.c, .int .i64 v.n, .string v.v, .bool v.d, .int .i64 s.n, .int .u64 s.a, .int .u64 s.b], .pointer lp, .pointer rp] w fun e w' => ∃ p, e = .returned (.pointer p) ∧ IsTE w' p (Tr.node l k v s r) ∧ CntE c (n + Tr.hangC l r) w' ∧ Keeps (OnC c) w w' := by
  have H := aside (lstE k v s ht hc)
  have HC := aside hc
  have CL := aside (fun (W : World) (h : Stay 120 w W) => levelsE (hl.on h))
  have CR := aside (fun (W : World) (h : Stay 120 w W) => levelsE (hr.on h))
  have HN := aside (hangE HB k v s H.out.tobj H.out.cnt (hl.on H.out.stay) (hr.on H.out.stay) hw)
  generalize Tr.node l k v s r = T at *
  generalize Tr.hangC l r = cst at *
  generalize (l.ht : Int) = hA at *
  generalize (r.ht : Int) = hB at *
  clear ht hc hl hr hw
  have hq1 : (wrap64 (hA - hB) == 2) = false := beq_eq_false_iff_ne.2 hd
  have hq2 : (wrap64 (hA - hB) == -2) = false := beq_eq_false_iff_ne.2 hd2
  clear hd hd2
  go_enter Tryd.func79, Tryd.ntmps79
  go_wp2_with fail
  refine (CL.out _ H.out.stay).mono ?_
  rintro e w1 ⟨rfl, rfl⟩
  go_wp2_with fail
  refine (CR.out _ H.out.stay).mono ?_
  rintro e w1 ⟨rfl, rfl⟩
  go_wp2_with fail
  refine HN.out.mono ?_
  rintro e w1 ⟨p, rfl, i1, bc, kk⟩
  have I1 := aside i1
  have BC := aside bc
  have KK := aside (H.out.keeps.trans kk)
  clear i1 bc kk HN CL CR H
  go_wp2
  exact bodyPost_ret (v := .pointer p) (by simp [results, Tryd.results79, go_sem]) rfl ⟨p, rfl, I1.out, BC.out, KK.out⟩

theorem levelE {jv : Value} {c : Option Nat} (HB : BothOkE jv c) {w : World} {tb n : Nat} {root : Option Addr} {l r : Tr En Tl} {lp rp : Option Addr} (k : ByteArray) (v : En) (s : Tl)
    (ht : TObjE w tb jv root) (hc : CntE c n w) (hl : IsTE w lp l) (hr : IsTE w rp r) (hw : (Tr.node l k v s r).wt tSz ≤ 4611686018427387904) :
    Calls Tryd.prog 79 #[.pointer (some ⟨tb, 0, none⟩), .agg #[.string k, .string v.k, .int .i64 v.c, .int .i64 v.n, .string v.v, .bool v.d, .int .i64 s.n, .int .u64 s.a, .int .u64 s.b], .pointer lp, .pointer rp] w fun e w' => ∃ p, e = .returned (.pointer p) ∧ IsTE w' p (Tr.level k v s l r) ∧ CntE c (n + Tr.levelC l r) w' ∧ Keeps (OnC c) w w' := by
  have h1 := Tr.cnt_le_wt tSz (Tr.node l k v s r)
  have h2 := Tr.ht_le_cnt l
  have h3 := Tr.ht_le_cnt r
  simp only [Tr.cnt] at h1
  have hd : IntKind.i64.wrap ((l.ht : Int) - (r.ht : Int)) = (l.ht : Int) - (r.ht : Int) := by rw [IntKind.wrap_i64]; omega
  have hd' : wrap64 ((l.ht : Int) - (r.ht : Int)) = (l.ht : Int) - (r.ht : Int) := by unfold wrap64; omega
  unfold Tr.level Tr.levelC
  by_cases g1 : l.ht = r.ht + 2
  · rw [if_pos g1, if_pos g1]
    exact levelAE HB k v s ht hc hl hr hw (by rw [hd]; omega) g1
  · rw [if_neg g1, if_neg g1]
    by_cases g2 : r.ht = l.ht + 2
    · rw [if_pos g2, if_pos g2]
      exact levelBE HB k v s ht hc hl hr hw (by rw [hd]; omega) g2
    · rw [if_neg g2, if_neg g2]
      exact levelCE HB k v s ht hc hl hr hw (by rw [hd']; omega) (by rw [hd']; omega)

end Go.Proofs.YtlgcdcjhflihiaaDoor
namespace Go.Proofs.YtlgcdcjhflihiaaDoor
open Go.RowKit Go.Shelf
set_option linter.unusedVariables false

attribute [local go_sem] Oper.semAt_some

/-- What a round leaves as it was: blocks below n₀, but for the counter and the block bm. -/
def KpC (c : Option Nat) (bm n₀ : Nat) : World → World → Prop := Keeps (fun k => OnC c k ∨ k = bm ∨ n₀ ≤ k)

theorem KpC.t {c : Option Nat} {bm n₀ : Nat} {A B C : World} (h : KpC c bm n₀ A B) (k : KpC c bm n₀ B C) : KpC c bm n₀ A C := Keeps.trans h k
theorem KpC.b {c : Option Nat} {bm n₀ B : Nat} (hn : n₀ ≤ B) (W : World) (l : Nat) (o o' : Obj) (hl : B ≤ l) (h : W.heap[l]? = some o) (_ : o.isCells = false) (_ : o.isWalk = false) : KpC c bm n₀ W (W.putObj l o') :=
  (Keeps.refl _ W).grown (grownBy_putObj' W l o') (fun k e _ => by cases e; exact .inr (.inr (by omega)))
theorem KpC.cellk {c : Option Nat} {bm n₀ : Nat} {A B : World} (h : KpC c bm n₀ A B) {p : Addr} {v : Value} (hp : p.block < n₀) (hc : ¬ OnC c p.block) (hm : p.block ≠ bm) (hv : A.cell? p = some v) : B.cell? p = some v :=
  (h.cell (World.block_lt_of_cell? A _ hv) (fun e => by rcases e with e | e | e; exact hc e; exact hm e; omega)).trans hv

/-- A node on the way: where it lies, and its tree. -/
structure BEE (w0 : World) (M : Nat) where
  i : Nat
  b : Nat
  l : Tr En Tl
  r : Tr En Tl
  k : ByteArray
  v : En
  s : Tl
  ok : IsTE w0 (some ⟨b, 0, none⟩) (.node l k v s r)
  le : (Tr.node l k v s r).wt tSz ≤ M

def BEE.t {w0 : World} {M : Nat} (x : BEE w0 M) : Tr En Tl := .node x.l x.k x.v x.s x.r
def encsE {w0 : World} {M : Nat} (x : BEE w0 M) : Array Value := #[.int .i64 (x.i : Int), .pointer (some ⟨x.b, 0, none⟩)]

set_option maxRecDepth 100000 in
set_option maxHeartbeats 4000000 in
theorem bk1E {w0 : World} {M : Nat} (es : List (BEE w0 M)) (c : Option Nat) (n : Nat) (hn : 1 ≤ n) (l Bs bm n₀ g len cap : Nat) (hlen : es.length = len) (hb : len ≤ 1000000) (hBn : Bs < n₀) (hgn : g < n₀) (hBC : ¬ OnC c Bs) (hgC : ¬ OnC c g) (hBm : Bs ≠ bm) (hgm : g ≠ bm) (J Jx : List (BEE w0 M) → World → Prop)
    (hY : ∀ pre x W, J pre W → pre.length < len → YieldAt Fence.wide (n - 1) Tryd.prog l (encsE x) W fun e W' =>
      (e = .returned (.bool true) ∧ J (pre ++ [x]) W' ∧ KpC c bm n₀ W W') ∨ (e = .returned (.bool false) ∧ Jx (pre ++ [x]) W'))
    (W : World) (hBs : W.cell? ⟨Bs, 0, none⟩ = some (.slice (some ⟨g, 0, none⟩) len cap))
    (hi : ∀ (j : Nat) (h : j < es.length), es[j].i = j) (hc : ∀ (j : Nat) (h : j < es.length), W.cell? ⟨g, j, none⟩ = some (.pointer (some ⟨es[j].b, 0, none⟩))) (h0 : J [] W) :
    CallsIn Fence.wide n Tryd.prog 92 #[.func (.yield l) #[] #[], .pointer (some ⟨Bs, 0, none⟩)] W fun e W' => (∃ v, e = .returned v) ∧
      ((∃ ys, ys = es.reverse ∧ J ys W') ∨ (∃ pre, True ∧ Jx pre W')) := by
  refine callsIn_of_wp Tryd.func92 rfl trivial ?_ rfl
  simp only [Tryd.ntmps92, List.size_toArray, List.length_cons, List.length_nil, Nat.reduceAdd, Nat.reduceSub, Array.replicate_succ, Array.replicate_zero, List.push_toArray, List.append_toArray, List.nil_append, List.cons_append]
  have HB := aside hb
  clear hb
  have hw1 : IntKind.i64.wrap ((len : Int) - 1) = (len : Int) - 1 := by have := HB.out; rw [IntKind.wrap_i64]; omega
  gi_wp2
  gi_loopw [3] (fun i wr => ∃ q m : Nat, q + m = len ∧ i = .int .i64 ((m : Int) - 1) ∧ J (es.reverse.take q) wr ∧ KpC c bm n₀ W wr) (fun i _ => (intOf i + 1).toNat)
  case atStart => exact ⟨0, len, by omega, rfl, by simpa using h0, Keeps.refl _ _⟩
  case round =>
    obtain ⟨q, m, hqm, rfl, hJs, hk⟩ := hrel
    have HQ := aside hqm
    have HJ := aside hJs
    have hs := hk.cellk (p := ⟨Bs, 0, none⟩) hBn hBC hBm hBs
    have HK := aside hk
    clear hJs hk hqm hw1
    match m, HQ with
    | 0, HQ =>
      gi_wp2
      go_end0
      have h9 := HJ.out
      rw [List.take_of_length_le (by have := HQ.out; simp; omega)] at h9
      first | exact ⟨⟨_, rfl⟩, .inl h9⟩ | exact ⟨⟨_, rfl⟩, .inl ⟨_, rfl, h9⟩⟩
    | m + 1, HQ =>
      have hm : m < es.length := by have := HQ.out; omega
      obtain ⟨x, hx⟩ : ∃ x, es[m] = x := ⟨_, rfl⟩
      have hx1 := hi m hm
      have hx2 := hc m hm
      rw [hx] at hx1 hx2
      have cg := HK.out.cellk (p := ⟨g, m, none⟩) hgn hgC hgm hx2
      obtain ⟨fn, tmps, assign, body, hy, hR⟩ := hY _ x wr HJ.out (by have := HQ.out; simp; omega)
      dsimp only [encsE] at hy
      rw [hx1] at hy
      have htk : es.reverse.take (q + 1) = es.reverse.take q ++ [x] := by
        have e3 : es.length - 1 - q = m := by have := HQ.out; omega
        rw [List.take_succ_eq_append_getElem (by have := HQ.out; simp; omega)]
        simp [List.getElem_reverse, e3, hx]
      have HTK := aside htk
      have hi1 : IntKind.i64.wrap ((m : Int) - 1) = (m : Int) - 1 := by have := HB.out; have := HQ.out; rw [IntKind.wrap_i64]; omega
      have hm0 : (0 : Int) ≤ (m : Int) := by omega
      have hm1 : (m : Int) < (len : Int) := by have := HQ.out; omega
      have hmm : ((m + 1 : Nat) : Int) - 1 = (m : Int) := by omega
      clear hc hi hx hx1 hx2 hm htk hY hBs
      rw [hmm]
      clear hmm
      gi_wp2
      refine hR.mono ?_
      rintro e W3 (⟨rfl, hJ3, hk3⟩ | ⟨rfl, hJx3⟩)
      · have HJ3 := aside hJ3
        have HK3 := aside (HK.out.t hk3)
        clear hy hJ3 hk3
        gi_wp2
        go_roundw
        case rel => exact ⟨q + 1, m, by have := HQ.out; omega, rfl, by rw [HTK.out]; exact HJ3.out, HK3.out⟩
        case measure => (simp [intOf] <;> omega)
      · clear hy
        gi_wp2
        refine bodyPost_ret (results_none rfl _ _ _) rfl ?_
        exact ⟨⟨_, rfl⟩, .inr ⟨_, trivial, hJx3⟩⟩

set_option maxHeartbeats 1000000 in
/-- Backward: the slice is boxed; the function value captures the box. -/
theorem bkE (n : Nat) (a : Option Addr) (len cap : Nat) (w : World) :
    CallsIn Fence.wide n Tryd.prog 78 #[.slice a len cap] w fun e w' => e = .returned (.func (.func 92) #[] #[.pointer (some ⟨w.heap.size, 0, none⟩)]) ∧ w' = w.alloc (.cells #[.slice a len cap] 114) := by
  refine callsIn_of_wp Tryd.func78 rfl trivial ?_ rfl
  simp only [Tryd.ntmps78, List.size_toArray, List.length_cons, List.length_nil, Nat.reduceAdd, Nat.reduceSub, Array.replicate_succ, Array.replicate_zero, List.push_toArray, List.append_toArray, List.nil_append, List.cons_append]
  gi_wp2
  go_ret
  exact ⟨rfl, rfl⟩

theorem bkStopsE {w0 : World} {M : Nat} (es : List (BEE w0 M)) (c : Option Nat) (n : Nat) (hn : 1 ≤ n) (Bs bm n₀ g len cap : Nat) (w : World) (hlen : es.length = len) (hb : len ≤ 1000000) (hBn : Bs < n₀) (hgn : g < n₀) (hn₀ : n₀ ≤ w.heap.size) (hBC : ¬ OnC c Bs) (hgC : ¬ OnC c g) (hBm : Bs ≠ bm) (hgm : g ≠ bm)
    (hBs : w.cell? ⟨Bs, 0, none⟩ = some (.slice (some ⟨g, 0, none⟩) len cap)) (hi : ∀ (j : Nat) (h : j < es.length), es[j].i = j) (hc : ∀ (j : Nat) (h : j < es.length), w.cell? ⟨g, j, none⟩ = some (.pointer (some ⟨es[j].b, 0, none⟩))) :
    SeqStopsK Fence.wide n Tryd.prog 92 #[.pointer (some ⟨Bs, 0, none⟩)] encsE (KpC c bm n₀) (fun ys => ys = es.reverse) (fun _ => True) len w := fun l J Jx W hW hJ _ hY h0 =>
  bk1E es c n hn l Bs bm n₀ g len cap hlen hb hBn hgn hBC hgC hBm hgm J Jx hY W ((hW.cell (p := ⟨Bs, 0, none⟩) (Nat.lt_of_lt_of_le hBn hn₀)).trans hBs) hi (fun j h => (hW.cell (p := ⟨g, j, none⟩) (Nat.lt_of_lt_of_le hgn hn₀)).trans (hc j h)) h0

/-- The nodes of a way as a list. -/
theorem besE {w0 : World} {M : Nat} (pre : List (Option Addr × Tr En Tl)) (h : ∀ x ∈ pre, IsTE w0 x.1 x.2 ∧ x.2.isNil = false ∧ x.2.wt tSz ≤ M) :
    ∃ es : List (BEE w0 M), es.length = pre.length ∧ (∀ (j : Nat) (hj : j < es.length), es[j].i = j) ∧ es.map (·.t) = pre.map (·.2) ∧ pre.map (fun x => Value.pointer x.1) = es.map (fun e => Value.pointer (some ⟨e.b, 0, none⟩)) := by
  have one : ∀ j : Fin pre.length, ∃ e : BEE w0 M, e.i = j.1 ∧ e.t = pre[j.1].2 ∧ pre[j.1].1 = some ⟨e.b, 0, none⟩ := fun j => by
    obtain ⟨h1, h2, h3⟩ := h pre[j.1] (List.getElem_mem _)
    generalize pre[j.1] = x at h1 h2 h3 ⊢
    obtain ⟨p, t⟩ := x
    dsimp only at h1 h2 h3 ⊢
    cases t with
    | nil => cases h2
    | node l k v s r =>
      have h1' := h1
      obtain ⟨b, lp, rp, rfl, _⟩ := h1'
      exact ⟨⟨j.1, b, l, r, k, v, s, h1, h3⟩, rfl, rfl, rfl⟩
  refine ⟨List.ofFn (fun j => (one j).choose), by simp, ?_, ?_, ?_⟩
  · intro j hj
    rw [List.getElem_ofFn]
    exact (one ⟨j, by simpa using hj⟩).choose_spec.1
  · apply List.ext_getElem (by simp)
    intro j h1 h2
    rw [List.getElem_map, List.getElem_ofFn, List.getElem_map]
    exact (one ⟨j, by simpa using h1⟩).choose_spec.2.1
  · apply List.ext_getElem (by simp)
    intro j h1 h2
    rw [List.getElem_map, List.getElem_map, List.getElem_ofFn]
    exact congrArg Value.pointer (one ⟨j, by simpa using h1⟩).choose_spec.2.2

end Go.Proofs.YtlgcdcjhflihiaaDoor
namespace Go.Proofs.YtlgcdcjhflihiaaDoor
open Go.RowKit
set_option linter.unusedVariables false

/-- Five cells of a block set. -/
def setE (W : World) (g : Nat) (e : En) : World := ((((W.setCell ⟨g, 0, none⟩ (.string e.k)).setCell ⟨g, 1, none⟩ (.int .i64 e.c)).setCell ⟨g, 2, none⟩ (.int .i64 e.n)).setCell ⟨g, 3, none⟩ (.string e.v)).setCell ⟨g, 4, none⟩ (.bool e.d)

theorem setE_same {W : World} {g : Nat} {x0 x1 x2 x3 x4 : Value} {T : TypeId} (h : W.heap[g]? = some (.cells #[x0, x1, x2, x3, x4] T (0, 0))) (e : En) : (setE W g e).heap[g]? = some (.cells #[.string e.k, .int .i64 e.c, .int .i64 e.n, .string e.v, .bool e.d] T (0, 0)) := by
  have h1 := heap_setCell_same W g 0 _ _ (.string e.k) h
  have h2 := heap_setCell_same _ g 1 _ _ (.int .i64 e.c) h1
  have h3 := heap_setCell_same _ g 2 _ _ (.int .i64 e.n) h2
  have h4 := heap_setCell_same _ g 3 _ _ (.string e.v) h3
  exact heap_setCell_same _ g 4 _ _ (.bool e.d) h4
theorem setE_other (W : World) (g k : Nat) (e : En) (h : k ≠ g) : (setE W g e).heap[k]? = W.heap[k]? := by
  unfold setE
  rw [heap_setCell_other _ _ _ _ h, heap_setCell_other _ _ _ _ h, heap_setCell_other _ _ _ _ h, heap_setCell_other _ _ _ _ h, heap_setCell_other _ _ _ _ h]
theorem setE_cell {W : World} {g : Nat} {p : Addr} {v : Value} (e : En) (h : W.cell? p = some v) (hne : p.block ≠ g) : (setE W g e).cell? p = some v := by
  have ap : ∀ {X : World} {i : Nat} {u : Value}, X.cell? p = some v → (X.setCell ⟨g, i, none⟩ u).cell? p = some v := fun {X i u} hx => (World.cell?_setCell_other _ _ _ _ (fun e => hne (by rw [← e]))).trans hx
  exact ap (ap (ap (ap (ap h))))
theorem Keeps.setE {S : Nat → Prop} {a w : World} (h : Keeps S a w) {g : Nat} (hg : g < a.heap.size → S g) (e : En) : Keeps S a (setE w g e) :=
  ((((h.setCell (p := ⟨g, 0, none⟩) hg _).setCell (p := ⟨g, 1, none⟩) hg _).setCell (p := ⟨g, 2, none⟩) hg _).setCell (p := ⟨g, 3, none⟩) hg _).setCell (p := ⟨g, 4, none⟩) hg _
theorem CntE.setE {c : Option Nat} {n : Nat} {w : World} (h : CntE c n w) {g : Nat} (hg : ¬ OnC c g) (e : En) : CntE c n (setE w g e) := fun b hb => by
  rw [setE_other]
  · exact h b hb
  · rintro rfl; exact hg hb
theorem Stay.setE {T U : TypeId} {a b : World} (h : Stay T a b) {g : Nat} {cs : Array Value} (hg : b.heap[g]? = some (.cells cs U (0, 0))) (hT : T ≠ U) (e : En) : Stay T a (setE b g e) := fun i cs' he => by
  have e1 := h i cs' he
  rw [setE_other]
  · exact e1
  · rintro rfl; rw [hg] at e1; simp at e1; exact hT e1.2.symm
theorem size_setE (W : World) (g : Nat) (e : En) : (setE W g e).heap.size = W.heap.size := by simp [_root_.Go.Proofs.YtlgcdcjhflihiaaDoor.setE, World.setCell]

end Go.Proofs.YtlgcdcjhflihiaaDoor

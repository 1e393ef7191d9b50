/-
  level (E).
  down (E): the way to a key.
  slices.Backward over nodes (E).
  A region that draws its order inside a round of a range over a function: by the walk that holds a set of facts.
  An entry's five cells, set at once.
  Put (E): what it lays.
-/
import Derived.Test.YtpbkjffiohfkcaaDoorBp3
import Derived.Test.YtpbkjffiohfkcaaDoorBp1
import Derived.Test.YtpbkjffiohfkcaaDoorBp2
import Derived.Deep.LoopGhost
import Derived.Deep.AppendLies
import Derived.WalkMore
import Derived.RangeFuncNested
import Derived.RangeFuncBound
import Derived.RangeFuncCalls
import Derived.RangeFuncLeaves
import Derived.RangeFuncWrites
import Derived.Shelf.Abstract
import Derived.Shelf.RegionOpen
import Derived.OwnWalkIn
import Derived.TacticsInMore
import Derived.LoopNIn
import Derived.LoopIn
import Derived.Stop.RegionWithIn
import Derived.OrdersHeld
import Derived.OrdersIn
import Derived.Deep.RegionHeld
namespace Go.Proofs.YtpbkjffiohfkcaaDoor
open Go.RowKit
set_option linter.unusedVariables false
theorem turnRE {jv : Value} {c : Option Nat} (HB : BothOkE jv c) {w : World} {tb n : Nat} {root : Option Addr} {l r : Tr En Tl} {lp rp : Option Addr} (k : ByteArray) (v : En) (s : Tl)
    (ht : TObjE w tb jv root) (hc : CntE c n w) (hl : IsTE w lp l) (hr : IsTE w rp r) (hw : (Tr.node l k v s r).wt tSz ≤ 4611686018427387904) (hh : l.ht = r.ht + 2) :
    Calls Tryd.prog 65 #[.pointer (some ⟨tb, 0, none⟩), .agg #[.string k, .string v.k, .int .i64 v.c, .int .i64 v.n, .string v.v, .bool v.d, .int .i64 s.n, .int .u64 s.a, .int .u64 s.b], .pointer lp, .pointer rp] w fun e w' => ∃ p, e = .returned (.pointer p) ∧ IsTE w' p (Tr.turnR k v s l r) ∧ CntE c (n + Tr.turnRC l r) w' ∧ Keeps (OnC c) w w' := by
  cases l with
  | nil => simp [Tr.ht] at hh
  | node gl gk gv gs gr =>
    obtain ⟨bg, glp, grp, rfl, hg, hgl, hgr⟩ := hl
    simp only [Tr.wt] at hw
    by_cases hcmp : gr.ht ≤ gl.ht
    · simp only [Tr.turnR, Tr.turnRC, if_pos hcmp]
      refine (turnRAE HB k v s ht hc hg hgl hgr hr hcmp (by simp only [Tr.wt]; omega) (by simp only [Tr.wt]; omega)).mono fun e w' ⟨p, e1, e2, e3, e4⟩ => ⟨p, e1, e2, ?_, e4⟩
      rw [show Tr.hangC gl (gr.node k v s r) = if gl.isNil then 1 else 2 from by unfold Tr.hangC; cases gl.isNil <;> rfl] at e3
      rw [← Nat.add_assoc]
      exact e3
    · cases gr with
      | nil => simp [Tr.ht] at hcmp
      | node a ik iv is b =>
        simp only [Tr.turnR, Tr.turnRC, if_neg hcmp]
        have hgr' := hgr
        obtain ⟨bi, ap, bp, rfl, hi, ha, hb⟩ := hgr'
        simp only [Tr.wt] at hw
        refine (turnRBE HB k v s ht hc hg hi hgl ha hb hgr hr (by omega) (by simp only [Tr.wt]; omega) (by simp only [Tr.wt]; omega) (by simp only [Tr.wt]; omega)).mono fun e w' ⟨p, e1, e2, e3, e4⟩ => ⟨p, e1, e2, ?_, e4⟩
        rw [show Tr.hangC (gl.node gk gv gs a) (b.node k v s r) = 2 from rfl] at e3
        rw [← Nat.add_assoc, ← Nat.add_assoc]
        exact e3
theorem turnLE {jv : Value} {c : Option Nat} (HB : BothOkE jv c) {w : World} {tb n : Nat} {root : Option Addr} {l r : Tr En Tl} {lp rp : Option Addr} (k : ByteArray) (v : En) (s : Tl)
    (ht : TObjE w tb jv root) (hc : CntE c n w) (hl : IsTE w lp l) (hr : IsTE w rp r) (hw : (Tr.node l k v s r).wt tSz ≤ 4611686018427387904) (hh : r.ht = l.ht + 2) :
    Calls Tryd.prog 66 #[.pointer (some ⟨tb, 0, none⟩), .agg #[.string k, .string v.k, .int .i64 v.c, .int .i64 v.n, .string v.v, .bool v.d, .int .i64 s.n, .int .u64 s.a, .int .u64 s.b], .pointer lp, .pointer rp] w fun e w' => ∃ p, e = .returned (.pointer p) ∧ IsTE w' p (Tr.turnL k v s l r) ∧ CntE c (n + Tr.turnLC l r) w' ∧ Keeps (OnC c) w w' := by
  cases r with
  | nil => simp [Tr.ht] at hh
  | node gl gk gv gs gr =>
    obtain ⟨bg, glp, grp, rfl, hg, hgl, hgr⟩ := hr
    simp only [Tr.wt] at hw
    by_cases hcmp : gl.ht ≤ gr.ht
    · simp only [Tr.turnL, Tr.turnLC, if_pos hcmp]
      refine (turnLAE HB k v s ht hc hg hgr hgl hl hcmp (by simp only [Tr.wt]; omega) (by simp only [Tr.wt]; omega)).mono fun e w' ⟨p, e1, e2, e3, e4⟩ => ⟨p, e1, e2, ?_, e4⟩
      rw [show Tr.hangC (l.node k v s gl) gr = if gr.isNil then 1 else 2 from by unfold Tr.hangC; cases gr.isNil <;> rfl] at e3
      rw [← Nat.add_assoc]
      exact e3
    · cases gl with
      | nil => simp [Tr.ht] at hcmp
      | node a ik iv is b =>
        simp only [Tr.turnL, Tr.turnLC, if_neg hcmp]
        have hgl' := hgl
        obtain ⟨bi, ap, bp, rfl, hi, ha, hb⟩ := hgl'
        simp only [Tr.wt] at hw
        refine (turnLBE HB k v s ht hc hg hi hgr ha hb hgl hl (by omega) (by simp only [Tr.wt]; omega) (by simp only [Tr.wt]; omega) (by simp only [Tr.wt]; omega)).mono fun e w' ⟨p, e1, e2, e3, e4⟩ => ⟨p, e1, e2, ?_, e4⟩
        rw [show Tr.hangC (l.node k v s a) (b.node gk gv gs gr) = 2 from rfl] at e3
        rw [← Nat.add_assoc, ← Nat.add_assoc]
        exact e3
set_option maxHeartbeats 1600000 in
set_option maxRecDepth 100000 in
theorem levelAE {jv : Value} {c : Option Nat} (HB : BothOkE jv c) {w : World} {tb n : Nat} {root : Option Addr} {l r : Tr En Tl} {lp rp : Option Addr} (k : ByteArray) (v : En) (s : Tl)
    (ht : TObjE w tb jv root) (hc : CntE c n w) (hl : IsTE w lp l) (hr : IsTE w rp r) (hw : (Tr.node l k v s r).wt tSz ≤ 4611686018427387904) (hd : IntKind.i64.wrap ((l.ht : Int) - (r.ht : Int)) = 2) (hh : l.ht = r.ht + 2) :
    Calls Tryd.prog 50 #[.pointer (some ⟨tb, 0, none⟩), .agg #[.string k, .string v.k, .int .i64 v.c, .int .i64 v.n, .string v.v, .bool v.d, .int .i64 s.n, .int .u64 s.a, .int .u64 s.b], .pointer lp, .pointer rp] w fun e w' => ∃ p, e = .returned (.pointer p) ∧ IsTE w' p (Tr.turnR k v s l r) ∧ CntE c (n + Tr.turnRC l r) w' ∧ Keeps (OnC c) w w' := by
  have H := aside (lstE k v s ht hc)
  have HC := aside hc
  have CL := aside (fun (W : World) (h : Stay 107 w W) => levelsE (hl.on h))
  have CR := aside (fun (W : World) (h : Stay 107 w W) => levelsE (hr.on h))
  have HN := aside (turnRE HB k v s H.out.tobj H.out.cnt (hl.on H.out.stay) (hr.on H.out.stay) hw hh)
  generalize Tr.turnR k v s l r = T at *
  generalize Tr.turnRC l r = cst at *
  generalize (l.ht : Int) = hA at *
  generalize (r.ht : Int) = hB at *
  clear ht hc hl hr hw hh
  go_enter Tryd.func50, Tryd.ntmps50
  go_wp2_with fail
  refine (CL.out _ H.out.stay).mono ?_
  rintro e w1 ⟨rfl, rfl⟩
  go_wp2_with fail
  refine (CR.out _ H.out.stay).mono ?_
  rintro e w1 ⟨rfl, rfl⟩
  go_wp2_with fail
  refine HN.out.mono ?_
  rintro e w1 ⟨p, rfl, i1, bc, kk⟩
  have I1 := aside i1
  have BC := aside bc
  have KK := aside (H.out.keeps.trans kk)
  clear i1 bc kk HN CL CR H
  go_wp2
  exact bodyPost_ret (v := .pointer p) (by simp [results, Tryd.results50, go_sem]) rfl ⟨p, rfl, I1.out, BC.out, KK.out⟩
set_option maxHeartbeats 1600000 in
set_option maxRecDepth 100000 in
theorem levelBE {jv : Value} {c : Option Nat} (HB : BothOkE jv c) {w : World} {tb n : Nat} {root : Option Addr} {l r : Tr En Tl} {lp rp : Option Addr} (k : ByteArray) (v : En) (s : Tl)
    (ht : TObjE w tb jv root) (hc : CntE c n w) (hl : IsTE w lp l) (hr : IsTE w rp r) (hw : (Tr.node l k v s r).wt tSz ≤ 4611686018427387904) (hd : IntKind.i64.wrap ((l.ht : Int) - (r.ht : Int)) = -2) (hh : r.ht = l.ht + 2) :
    Calls Tryd.prog 50 #[.pointer (some ⟨tb, 0, none⟩), .agg #[.string k, .string v.k, .int .i64 v.c, .int .i64 v.n, .string v.v, .bool v.d, .int .i64 s.n, .int .u64 s.a, .int .u64 s.b], .pointer lp, .pointer rp] w fun e w' => ∃ p, e = .returned (.pointer p) ∧ IsTE w' p (Tr.turnL k v s l r) ∧ CntE c (n + Tr.turnLC l r) w' ∧ Keeps (OnC c) w w' := by
  have H := aside (lstE k v s ht hc)
  have HC := aside hc
  have CL := aside (fun (W : World) (h : Stay 107 w W) => levelsE (hl.on h))
  have CR := aside (fun (W : World) (h : Stay 107 w W) => levelsE (hr.on h))
  have HN := aside (turnLE HB k v s H.out.tobj H.out.cnt (hl.on H.out.stay) (hr.on H.out.stay) hw hh)
  generalize Tr.turnL k v s l r = T at *
  generalize Tr.turnLC l r = cst at *
  generalize (l.ht : Int) = hA at *
  generalize (r.ht : Int) = hB at *
  clear ht hc hl hr hw hh
  go_enter Tryd.func50, Tryd.ntmps50
  go_wp2_with fail
  refine (CL.out _ H.out.stay).mono ?_
  rintro e w1 ⟨rfl, rfl⟩
  go_wp2_with fail
  refine (CR.out _ H.out.stay).mono ?_
  rintro e w1 ⟨rfl, rfl⟩
  go_wp2_with fail
  refine HN.out.mono ?_
  rintro e w1 ⟨p, rfl, i1, bc, kk⟩
  have I1 := aside i1
  have BC := aside bc
  have KK := aside (H.out.keeps.trans kk)
  clear i1 bc kk HN CL CR H
  go_wp2
  exact bodyPost_ret (v := .pointer p) (by simp [results, Tryd.results50, go_sem]) rfl ⟨p, rfl, I1.out, BC.out, KK.out⟩
set_option maxHeartbeats 1600000 in
set_option maxRecDepth 100000 in
theorem levelCE {jv : Value} {c : Option Nat} (HB : BothOkE jv c) {w : World} {tb n : Nat} {root : Option Addr} {l r : Tr En Tl} {lp rp : Option Addr} (k : ByteArray) (v : En) (s : Tl)
    (ht : TObjE w tb jv root) (hc : CntE c n w) (hl : IsTE w lp l) (hr : IsTE w rp r) (hw : (Tr.node l k v s r).wt tSz ≤ 4611686018427387904) (hd : wrap64 ((l.ht : Int) - (r.ht : Int)) ≠ 2) (hd2 : wrap64 ((l.ht : Int) - (r.ht : Int)) ≠ -2) :
    Calls Tryd.prog 50 #[.pointer (some ⟨tb, 0, none⟩), .agg #[.string k, .string v.k, .int .i64 v.c, .int .i64 v.n, .string v.v, .bool v.d, .int .i64 s.n, .int .u64 s.a, .int .u64 s.b], .pointer lp, .pointer rp] w fun e w' => ∃ p, e = .returned (.pointer p) ∧ IsTE w' p (Tr.node l k v s r) ∧ CntE c (n + Tr.hangC l r) w' ∧ Keeps (OnC c) w w' := by
  have H := aside (lstE k v s ht hc)
  have HC := aside hc
  have CL := aside (fun (W : World) (h : Stay 107 w W) => levelsE (hl.on h))
  have CR := aside (fun (W : World) (h : Stay 107 w W) => levelsE (hr.on h))
  have HN := aside (hangE HB k v s H.out.tobj H.out.cnt (hl.on H.out.stay) (hr.on H.out.stay) hw)
  generalize Tr.node l k v s r = T at *
  generalize Tr.hangC l r = cst at *
  generalize (l.ht : Int) = hA at *
  generalize (r.ht : Int) = hB at *
  clear ht hc hl hr hw
  have hq1 : (wrap64 (hA - hB) == 2) = false := beq_eq_false_iff_ne.2 hd
  have hq2 : (wrap64 (hA - hB) == -2) = false := beq_eq_false_iff_ne.2 hd2
  clear hd hd2
  go_enter Tryd.func50, Tryd.ntmps50
  go_wp2_with fail
  refine (CL.out _ H.out.stay).mono ?_
  rintro e w1 ⟨rfl, rfl⟩
  go_wp2_with fail
  refine (CR.out _ H.out.stay).mono ?_
  rintro e w1 ⟨rfl, rfl⟩
  go_wp2_with fail
  refine HN.out.mono ?_
  rintro e w1 ⟨p, rfl, i1, bc, kk⟩
  have I1 := aside i1
  have BC := aside bc
  have KK := aside (H.out.keeps.trans kk)
  clear i1 bc kk HN CL CR H
  go_wp2
  exact bodyPost_ret (v := .pointer p) (by simp [results, Tryd.results50, go_sem]) rfl ⟨p, rfl, I1.out, BC.out, KK.out⟩
theorem levelE {jv : Value} {c : Option Nat} (HB : BothOkE jv c) {w : World} {tb n : Nat} {root : Option Addr} {l r : Tr En Tl} {lp rp : Option Addr} (k : ByteArray) (v : En) (s : Tl)
    (ht : TObjE w tb jv root) (hc : CntE c n w) (hl : IsTE w lp l) (hr : IsTE w rp r) (hw : (Tr.node l k v s r).wt tSz ≤ 4611686018427387904) :
    Calls Tryd.prog 50 #[.pointer (some ⟨tb, 0, none⟩), .agg #[.string k, .string v.k, .int .i64 v.c, .int .i64 v.n, .string v.v, .bool v.d, .int .i64 s.n, .int .u64 s.a, .int .u64 s.b], .pointer lp, .pointer rp] w fun e w' => ∃ p, e = .returned (.pointer p) ∧ IsTE w' p (Tr.level k v s l r) ∧ CntE c (n + Tr.levelC l r) w' ∧ Keeps (OnC c) w w' := by
  have h1 := Tr.cnt_le_wt tSz (Tr.node l k v s r)
  have h2 := Tr.ht_le_cnt l
  have h3 := Tr.ht_le_cnt r
  simp only [Tr.cnt] at h1
  have hd : IntKind.i64.wrap ((l.ht : Int) - (r.ht : Int)) = (l.ht : Int) - (r.ht : Int) := by rw [IntKind.wrap_i64]; omega
  have hd' : wrap64 ((l.ht : Int) - (r.ht : Int)) = (l.ht : Int) - (r.ht : Int) := by unfold wrap64; omega
  unfold Tr.level Tr.levelC
  by_cases g1 : l.ht = r.ht + 2
  · rw [if_pos g1, if_pos g1]
    exact levelAE HB k v s ht hc hl hr hw (by rw [hd]; omega) g1
  · rw [if_neg g1, if_neg g1]
    by_cases g2 : r.ht = l.ht + 2
    · rw [if_pos g2, if_pos g2]
      exact levelBE HB k v s ht hc hl hr hw (by rw [hd]; omega) g2
    · rw [if_neg g2, if_neg g2]
      exact levelCE HB k v s ht hc hl hr hw (by rw [hd']; omega) (by rw [hd']; omega)
end Go.Proofs.YtpbkjffiohfkcaaDoor
namespace Go.Proofs.YtpbkjffiohfkcaaDoor
open Go.RowKit
set_option linter.unusedVariables false
theorem infoPNE : (Tryd.prog.info? 97).map (fun i => (i.zero, i.size, i.bytes)) = some (some (.pointer none), 1, 8) := by kernel_rfl
/-- The pointers of a way. -/
def ptrsE (l : List (Option Addr × Tr En Tl)) : List Value := l.map (fun x => .pointer x.1)
/-- What the loop of down keeps: pre has been passed; T' is what the way goes on from; at most g rounds are to come. -/
def DRelE (w : World) (k : ByteArray) (T : Tr En Tl) (g : Nat) (above at_ lo : Value) (wr : World) : Prop :=
  ∃ (pre : List (Option Addr × Tr En Tl)) (p : Option Addr) (T' : Tr En Tl) (L b cap : Nat), above = .slice (some ⟨b, 0, none⟩) pre.length cap ∧ at_ = .pointer p ∧ lo = .int .i64 (L : Int) ∧
    IsTE w p T' ∧ T'.ht ≤ g ∧ wr.ownsRow w.heap.size 97 1 (.slice (some ⟨b, 0, none⟩) pre.length cap) pre.length (ptrsE pre) ∧ Below w.heap.size w wr ∧ (∀ x ∈ pre, IsTE w x.1 x.2) ∧
    Tr.path k T = pre.map (·.2) ++ Tr.path k T' ∧ Tr.found k T = Tr.found k T' ∧ Tr.lower k T = L + Tr.lower k T' ∧ pre.length + T'.ht ≤ T.ht ∧ L + T'.cnt ≤ T.cnt
theorem DRelE.mk0 {w w0 : World} {k : ByteArray} {T : Tr En Tl} {p : Option Addr} {cap b : Nat} (hT : IsTE w p T) (ho : w0.ownsRow w.heap.size 97 1 (.slice (some ⟨b, 0, none⟩) 0 cap) 0 []) (hb : Below w.heap.size w w0) :
    DRelE w k T T.ht (.slice (some ⟨b, 0, none⟩) 0 cap) (.pointer p) (.int .i64 0) w0 :=
  ⟨[], p, T, 0, b, cap, rfl, rfl, rfl, hT, Nat.le_refl _, ho, hb, (fun x hx => by cases hx), rfl, rfl, by omega, by simp, by omega⟩
/-- One pointer more. -/
theorem down_rowE {w wr w1 : World} {u : Value} {pre : List (Option Addr × Tr En Tl)} {b b1 cap1 : Nat} {o : Obj} {T' : Tr En Tl} (hb : Below w.heap.size w wr)
    (hown : wr.ownsRow w.heap.size 97 1 u pre.length (ptrsE pre)) (hgrow : (wr.alloc o).grownBy w1 u.ownBlock)
    (hown1 : w1.ownsRow w.heap.size 97 1 (.slice (some ⟨b1, 0, none⟩) (pre.length + 1) cap1) (pre.length + 1) (ptrsE pre ++ [.pointer (some ⟨b, 0, none⟩)])) :
    w1.ownsRow w.heap.size 97 1 (.slice (some ⟨b1, 0, none⟩) (pre ++ [((some ⟨b, 0, none⟩ : Option Addr), T')]).length cap1) (pre ++ [((some ⟨b, 0, none⟩ : Option Addr), T')]).length (ptrsE (pre ++ [((some ⟨b, 0, none⟩ : Option Addr), T')])) ∧ Below w.heap.size w w1 := by
  constructor
  · simpa [ptrsE] using hown1
  · exact (hb.alloc hb.size o).grown hgrow (by have := hb.size; simp; omega) (fun j hj => (hown.lt j hj).1)
/-- What down hands back. -/
def DownsE (w : World) (k : ByteArray) (T : Tr En Tl) (e : Ending) (w' : World) : Prop :=
  ∃ (pre : List (Option Addr × Tr En Tl)) (p : Option Addr) (b cap : Nat), e = .returned (.tuple #[.slice (some ⟨b, 0, none⟩) pre.length cap, .pointer p, .int .i64 (Tr.lower k T : Int)]) ∧
    IsTE w p (Tr.found k T) ∧ w'.ownsRow w.heap.size 97 1 (.slice (some ⟨b, 0, none⟩) pre.length cap) pre.length (ptrsE pre) ∧ Below w.heap.size w w' ∧ (∀ x ∈ pre, IsTE w x.1 x.2) ∧ pre.map (·.2) = Tr.path k T
set_option maxHeartbeats 3200000 in
set_option maxRecDepth 100000 in
theorem downE (k : ByteArray) {w : World} {tb : Nat} {jv : Value} {p0 : Option Addr} {T : Tr En Tl} (ht : TObjE w tb jv p0) (hT : IsTE w p0 T) (hh : T.ht ≤ 1000000) (hcn : T.cnt ≤ 4611686018427387904) :
    Calls Tryd.prog 47 #[.pointer (some ⟨tb, 0, none⟩), .string k] w (DownsE w k T) := by
  obtain ⟨i0, hi0, hz0, hz1, hz2⟩ := info_parts infoPNE
  have HI := aside hi0
  have HT := aside hT
  have t0 := tobjE ht
  obtain ⟨-, -, -, -, r0, -⟩ := t0
  have CL := aside (levelsE hT)
  obtain ⟨h, hh1⟩ : ∃ h : Int, (T.ht : Int) = h := ⟨_, rfl⟩
  rw [hh1] at CL
  have HH := aside hh1
  have HCN := aside hcn
  have HHT := aside hh
  have TL := aside (lt_of_blk ht)
  clear ht hT hh1 hcn hh
  go_enter Tryd.func47, Tryd.ntmps47
  go_wp2
  go_step3
  go_wp2_with fail
  refine CL.out.mono ?_
  rintro e w1 ⟨rfl, rfl⟩
  go_wp2_with (at_make; refine wpList_make_own _ rfl _ _ 101 rfl w1.heap.size 97 i0 (.pointer none) 1 Tryd.underlying101 hi0 hz0 hz1 _ _ _ T.ht rfl rfl HH.out.symm (by rw [hz2]; have := HHT.out; omega) (by have := HHT.out; unfold maxLen; omega) (Nat.le_refl _) ?_)
  intro w0 hown0 hgrow0
  have hb0 : Below w1.heap.size w1 w0 := (Below.refl _ w1).grown hgrow0 (Nat.le_refl _) (fun k e => by cases e)
  have R0 := aside (DRelE.mk0 (k := k) HT.out hown0 hb0)
  have r0' := (hb0.cell (p := ⟨tb, 4, none⟩) TL.out).trans r0
  clear hgrow0 hown0 hb0 r0
  go_wp2
  go_step3
  go_wp2
  clear r0'
  go_loopg [4, 5, 6] T.ht (fun g a at_ lo wr => DRelE w1 k T g a at_ lo wr)
  case atStart => exact R0.out
  case round =>
    obtain ⟨pre, p, T', L, b0, cap, rfl, rfl, rfl, hT', hg, ho, hb, hpre, e1, e2, e3, e4, e5⟩ := hrel
    have HO := aside ho
    have HB := aside hb
    have HP := aside hpre
    have E1 := aside e1
    have E2 := aside e2
    have E3 := aside e3
    have E4 := aside e4
    have E5 := aside e5
    have HG := aside hg
    clear ho hb hpre e1 e2 e3 e4 e5 hg R0
    cases T' with
    | nil =>
      obtain rfl : p = none := hT'
      have he : Tr.lower k T = L := by have := E3.out; simpa [Tr.lower] using this
      have HE := aside he
      clear he
      go_wp2
      go_ret3
      refine ⟨pre, none, b0, cap, by rw [HE.out]; rfl, by rw [E2.out]; rfl, HO.out, HB.out, HP.out, by rw [E1.out]; simp [Tr.path]⟩
    | node l k' v s r =>
      have HT' := aside hT'
      obtain ⟨b, lp, rp, rfl, hbk, hl, hr⟩ := hT'
      have HL := aside hl
      have HR := aside hr
      have HK := aside hbk
      have hn := nodeE (blk_on hbk HB.out)
      obtain ⟨c0, -, -, -, -, -, -, -, -, c1, c2, -, -, -, -, -⟩ := hn
      clear hbk hl hr
      have CW := aside (fun (W : World) (h : Stay 107 w1 W) => rowsE (HL.out.on h))
      obtain ⟨lc, hlc⟩ : ∃ x : Int, (l.cnt : Int) = x := ⟨_, rfl⟩
      rw [hlc] at CW
      have HLC := aside hlc
      clear hlc
      cases q1 : Op.bytesLess k.toList k'.toList
      · cases q2 : Op.bytesLess k'.toList k.toList
        · have Q1 := aside (show kLt k k' = false from q1)
          have Q2 := aside (show kLt k' k = false from q2)
          have hgt : binOp .gtr 9 (.string k) (.string k') = pure (.bool false) := str_gtr (kLt_same Q1.out Q2.out)
          have hsum : IntKind.i64.wrap ((L : Int) + lc) = ((Tr.lower k T : Nat) : Int) := by
            have h1 := E3.out
            have h2 := HLC.out
            have h3 := HCN.out
            have h4 := E5.out
            simp only [Tr.lower, Q1.out, Q2.out, Bool.false_eq_true, if_false] at h1
            simp only [Tr.cnt] at h4
            rw [IntKind.wrap_i64]
            omega
          have HS := aside hsum
          clear hsum
          obtain ⟨lo, hlo⟩ : ∃ x : Int, IntKind.i64.wrap ((L : Int) + lc) = x := ⟨_, rfl⟩
          have HS2 := aside (hlo.symm.trans HS.out)
          go_wp2_with fail
          refine (CW.out _ (fun _ _ e => blk_on e HB.out)).mono ?_
          rintro e w2 ⟨rfl, rfl⟩
          go_wp2
          go_ret3
          refine ⟨pre, some ⟨b, 0, none⟩, b0, cap, ?_, ?_, HO.out, HB.out, HP.out, ?_⟩
          · rw [← HS2.out]; rfl
          · rw [E2.out]; simp only [Tr.found, Q1.out, Q2.out, Bool.false_eq_true, if_false]; exact HT'.out
          · rw [E1.out]; simp [Tr.path, Q1.out, Q2.out]
        · have Q1 := aside (show kLt k k' = false from q1)
          have Q2 := aside (show kLt k' k = true from q2)
          have hgt : binOp .gtr 9 (.string k) (.string k') = pure (.bool true) := str_gtr (kLt_over Q2.out)
          have hlen : pre.length ≤ 1000000 := by have := E4.out; have := HHT.out; omega
          have HLEN := aside hlen
          clear hlen
          go_wp2_with (at_builtin; refine wpList_append_lies _ rfl _ _ _ rfl w1.heap.size 97 i0 (.pointer none) 1 8 Tryd.underlying101 hi0 hz0 hz1 hz2 rfl (by decide) _ _ _ (by rfl) (HO.out.alloc _) ⟨wr.heap.size, 0, none⟩ 1 1 [.pointer (some ⟨b, 0, none⟩)] (by rfl) (by rfl) (World.news_of_block (cs := #[.pointer (some ⟨b, 0, none⟩)]) (t := 97) (fr := (0, 0)) (heap_alloc_new wr _)) (by simp [Value.oneCell']) (by first | omega | skip) (by have := HLEN.out; unfold maxLen; omega) (by have := HLEN.out; omega) (by have := HB.out.size; simp; omega) (wr.heap.size + 1) (by simp) ?_; intro b1 cp w1 hown1 hgrow hat hlt1; refine Hid.out ?_)
          refine aside ?_
          obtain ⟨O1, B1⟩ := down_rowE (T' := Tr.node l k' v s r) HB.out HO.out hgrow hown1
          have HO1 := aside O1
          have HB1 := aside B1
          have hn := nodeE (blk_on HK.out B1)
          obtain ⟨d0, -, -, -, -, -, -, -, -, d1, d2, -, -, -, -, -⟩ := hn
          clear O1 B1 hgrow hown1 hat hlt1 c0 c1 c2
          go_wp2_with fail
          refine (CW.out _ (fun _ _ e => blk_on e HB1.out)).mono ?_
          rintro e w2 ⟨rfl, rfl⟩
          have hs1 : IntKind.i64.wrap (lc + 1) = lc + 1 := by
            have h2 := HLC.out
            have h3 := HCN.out
            have h4 := E5.out
            simp only [Tr.cnt] at h4
            rw [IntKind.wrap_i64]
            omega
          have hs2 : IntKind.i64.wrap ((L : Int) + (lc + 1)) = ((L + (l.cnt + 1) : Nat) : Int) := by
            have h2 := HLC.out
            have h3 := HCN.out
            have h4 := E5.out
            simp only [Tr.cnt] at h4
            rw [IntKind.wrap_i64]
            omega
          obtain ⟨lo, hlo⟩ : ∃ x : Int, IntKind.i64.wrap ((L : Int) + (lc + 1)) = x := ⟨_, rfl⟩
          have HS2 := aside (hlo.symm.trans hs2)
          clear hs2
          go_wp2
          go_roundg r.ht
          case measure => have := HG.out; simp only [Tr.ht] at this; omega
          case rel =>
            refine ⟨pre ++ [(some ⟨b, 0, none⟩, Tr.node l k' v s r)], rp, r, L + (l.cnt + 1), b1, cp, by simp, rfl, by rw [← HS2.out], HR.out, Nat.le_refl _, HO1.out, HB1.out, ?_, ?_, ?_, ?_, ?_, ?_⟩
            · intro x hx
              rcases List.mem_append.1 hx with hx | hx
              · exact HP.out x hx
              · rw [List.mem_singleton.1 hx]; exact HT'.out
            · rw [E1.out]; simp [Tr.path, Q1.out, Q2.out]
            · rw [E2.out]; simp [Tr.found, Q1.out, Q2.out]
            · rw [E3.out]; simp only [Tr.lower, Q1.out, Q2.out, Bool.false_eq_true, if_false, if_true]; omega
            · have := E4.out; simp only [Tr.ht] at this; simp; omega
            · have := E5.out; simp only [Tr.cnt] at this; omega
      · have Q1 := aside (show kLt k k' = true from q1)
        have hlen : pre.length ≤ 1000000 := by have := E4.out; have := HHT.out; omega
        have HLEN := aside hlen
        clear hlen
        go_wp2_with (at_builtin; refine wpList_append_lies _ rfl _ _ _ rfl w1.heap.size 97 i0 (.pointer none) 1 8 Tryd.underlying101 hi0 hz0 hz1 hz2 rfl (by decide) _ _ _ (by rfl) (HO.out.alloc _) ⟨wr.heap.size, 0, none⟩ 1 1 [.pointer (some ⟨b, 0, none⟩)] (by rfl) (by rfl) (World.news_of_block (cs := #[.pointer (some ⟨b, 0, none⟩)]) (t := 97) (fr := (0, 0)) (heap_alloc_new wr _)) (by simp [Value.oneCell']) (by first | omega | skip) (by have := HLEN.out; unfold maxLen; omega) (by have := HLEN.out; omega) (by have := HB.out.size; simp; omega) (wr.heap.size + 1) (by simp) ?_; intro b1 cp w1 hown1 hgrow hat hlt1; refine Hid.out ?_)
        refine aside ?_
        obtain ⟨O1, B1⟩ := down_rowE (T' := Tr.node l k' v s r) HB.out HO.out hgrow hown1
        have HO1 := aside O1
        have HB1 := aside B1
        have hn := nodeE (blk_on HK.out B1)
        obtain ⟨d0, -, -, -, -, -, -, -, -, d1, d2, -, -, -, -, -⟩ := hn
        clear O1 B1 hgrow hown1 hat hlt1 c0 c1 c2
        go_wp2
        go_roundg l.ht
        case measure => have := HG.out; simp only [Tr.ht] at this; omega
        case rel =>
          refine ⟨pre ++ [(some ⟨b, 0, none⟩, Tr.node l k' v s r)], lp, l, L, b1, cp, by simp, rfl, rfl, HL.out, Nat.le_refl _, HO1.out, HB1.out, ?_, ?_, ?_, ?_, ?_, ?_⟩
          · intro x hx
            rcases List.mem_append.1 hx with hx | hx
            · exact HP.out x hx
            · rw [List.mem_singleton.1 hx]; exact HT'.out
          · rw [E1.out]; simp [Tr.path, Q1.out]
          · rw [E2.out]; simp [Tr.found, Q1.out]
          · rw [E3.out]; simp [Tr.lower, Q1.out]
          · have := E4.out; simp only [Tr.ht] at this; simp; omega
          · have := E5.out; simp only [Tr.cnt] at this; omega
end Go.Proofs.YtpbkjffiohfkcaaDoor
namespace Go.Proofs.YtpbkjffiohfkcaaDoor
open Go.RowKit Go.Shelf
set_option linter.unusedVariables false
attribute [local go_sem] Oper.semAt_some
/-- What a round leaves as it was: blocks below n₀, but for the counter and the block bm. -/
def KpC (c : Option Nat) (bm n₀ : Nat) : World → World → Prop := Keeps (fun k => OnC c k ∨ k = bm ∨ n₀ ≤ k)
theorem KpC.t {c : Option Nat} {bm n₀ : Nat} {A B C : World} (h : KpC c bm n₀ A B) (k : KpC c bm n₀ B C) : KpC c bm n₀ A C := Keeps.trans h k
theorem KpC.b {c : Option Nat} {bm n₀ B : Nat} (hn : n₀ ≤ B) (W : World) (l : Nat) (o o' : Obj) (hl : B ≤ l) (h : W.heap[l]? = some o) (_ : o.isCells = false) (_ : o.isWalk = false) : KpC c bm n₀ W (W.putObj l o') :=
  (Keeps.refl _ W).grown (grownBy_putObj' W l o') (fun k e _ => by cases e; exact .inr (.inr (by omega)))
theorem KpC.cellk {c : Option Nat} {bm n₀ : Nat} {A B : World} (h : KpC c bm n₀ A B) {p : Addr} {v : Value} (hp : p.block < n₀) (hc : ¬ OnC c p.block) (hm : p.block ≠ bm) (hv : A.cell? p = some v) : B.cell? p = some v :=
  (h.cell (World.block_lt_of_cell? A _ hv) (fun e => by rcases e with e | e | e; exact hc e; exact hm e; omega)).trans hv
/-- A node on the way: where it lies, and its tree. -/
structure BEE (w0 : World) (M : Nat) where
  i : Nat
  b : Nat
  l : Tr En Tl
  r : Tr En Tl
  k : ByteArray
  v : En
  s : Tl
  ok : IsTE w0 (some ⟨b, 0, none⟩) (.node l k v s r)
  le : (Tr.node l k v s r).wt tSz ≤ M
def BEE.t {w0 : World} {M : Nat} (x : BEE w0 M) : Tr En Tl := .node x.l x.k x.v x.s x.r
def encsE {w0 : World} {M : Nat} (x : BEE w0 M) : Array Value := #[.int .i64 (x.i : Int), .pointer (some ⟨x.b, 0, none⟩)]
set_option maxRecDepth 100000 in
set_option maxHeartbeats 4000000 in
theorem bk1E {w0 : World} {M : Nat} (es : List (BEE w0 M)) (c : Option Nat) (n : Nat) (hn : 1 ≤ n) (l Bs bm n₀ g len cap : Nat) (hlen : es.length = len) (hb : len ≤ 1000000) (hBn : Bs < n₀) (hgn : g < n₀) (hBC : ¬ OnC c Bs) (hgC : ¬ OnC c g) (hBm : Bs ≠ bm) (hgm : g ≠ bm) (J Jx : List (BEE w0 M) → World → Prop)
    (hY : ∀ pre x W, J pre W → pre.length < len → YieldAt Fence.wide (n - 1) Tryd.prog l (encsE x) W fun e W' =>
      (e = .returned (.bool true) ∧ J (pre ++ [x]) W' ∧ KpC c bm n₀ W W') ∨ (e = .returned (.bool false) ∧ Jx (pre ++ [x]) W'))
    (W : World) (hBs : W.cell? ⟨Bs, 0, none⟩ = some (.slice (some ⟨g, 0, none⟩) len cap))
    (hi : ∀ (j : Nat) (h : j < es.length), es[j].i = j) (hc : ∀ (j : Nat) (h : j < es.length), W.cell? ⟨g, j, none⟩ = some (.pointer (some ⟨es[j].b, 0, none⟩))) (h0 : J [] W) :
    CallsIn Fence.wide n Tryd.prog 64 #[.func (.yield l) #[] #[], .pointer (some ⟨Bs, 0, none⟩)] W fun e W' => (∃ v, e = .returned v) ∧
      ((∃ ys, ys = es.reverse ∧ J ys W') ∨ (∃ pre, True ∧ Jx pre W')) := by
  refine callsIn_of_wp Tryd.func64 rfl trivial ?_ rfl
  simp only [Tryd.ntmps64, List.size_toArray, List.length_cons, List.length_nil, Nat.reduceAdd, Nat.reduceSub, Array.replicate_succ, Array.replicate_zero, List.push_toArray, List.append_toArray, List.nil_append, List.cons_append]
  have HB := aside hb
  clear hb
  have hw1 : IntKind.i64.wrap ((len : Int) - 1) = (len : Int) - 1 := by have := HB.out; rw [IntKind.wrap_i64]; omega
  gi_wp2
  gi_loopw [3] (fun i wr => ∃ q m : Nat, q + m = len ∧ i = .int .i64 ((m : Int) - 1) ∧ J (es.reverse.take q) wr ∧ KpC c bm n₀ W wr) (fun i _ => (intOf i + 1).toNat)
  case atStart => exact ⟨0, len, by omega, rfl, by simpa using h0, Keeps.refl _ _⟩
  case round =>
    obtain ⟨q, m, hqm, rfl, hJs, hk⟩ := hrel
    have HQ := aside hqm
    have HJ := aside hJs
    have hs := hk.cellk (p := ⟨Bs, 0, none⟩) hBn hBC hBm hBs
    have HK := aside hk
    clear hJs hk hqm hw1
    match m, HQ with
    | 0, HQ =>
      gi_wp2
      go_end0
      have h9 := HJ.out
      rw [List.take_of_length_le (by have := HQ.out; simp; omega)] at h9
      first | exact ⟨⟨_, rfl⟩, .inl h9⟩ | exact ⟨⟨_, rfl⟩, .inl ⟨_, rfl, h9⟩⟩
    | m + 1, HQ =>
      have hm : m < es.length := by have := HQ.out; omega
      obtain ⟨x, hx⟩ : ∃ x, es[m] = x := ⟨_, rfl⟩
      have hx1 := hi m hm
      have hx2 := hc m hm
      rw [hx] at hx1 hx2
      have cg := HK.out.cellk (p := ⟨g, m, none⟩) hgn hgC hgm hx2
      obtain ⟨fn, tmps, assign, body, hy, hR⟩ := hY _ x wr HJ.out (by have := HQ.out; simp; omega)
      dsimp only [encsE] at hy
      rw [hx1] at hy
      have htk : es.reverse.take (q + 1) = es.reverse.take q ++ [x] := by
        have e3 : es.length - 1 - q = m := by have := HQ.out; omega
        rw [List.take_succ_eq_append_getElem (by have := HQ.out; simp; omega)]
        simp [List.getElem_reverse, e3, hx]
      have HTK := aside htk
      have hi1 : IntKind.i64.wrap ((m : Int) - 1) = (m : Int) - 1 := by have := HB.out; have := HQ.out; rw [IntKind.wrap_i64]; omega
      have hm0 : (0 : Int) ≤ (m : Int) := by omega
      have hm1 : (m : Int) < (len : Int) := by have := HQ.out; omega
      have hmm : ((m + 1 : Nat) : Int) - 1 = (m : Int) := by omega
      clear hc hi hx hx1 hx2 hm htk hY hBs
      rw [hmm]
      clear hmm
      gi_wp2
      refine hR.mono ?_
      rintro e W3 (⟨rfl, hJ3, hk3⟩ | ⟨rfl, hJx3⟩)
      · have HJ3 := aside hJ3
        have HK3 := aside (HK.out.t hk3)
        clear hy hJ3 hk3
        gi_wp2
        go_roundw
        case rel => exact ⟨q + 1, m, by have := HQ.out; omega, rfl, by rw [HTK.out]; exact HJ3.out, HK3.out⟩
        case measure => (simp [intOf] <;> omega)
      · clear hy
        gi_wp2
        refine bodyPost_ret (results_none rfl _ _ _) rfl ?_
        exact ⟨⟨_, rfl⟩, .inr ⟨_, trivial, hJx3⟩⟩
set_option maxHeartbeats 1000000 in
/-- Backward: the slice is boxed; the function value captures the box. -/
theorem bkE (n : Nat) (a : Option Addr) (len cap : Nat) (w : World) :
    CallsIn Fence.wide n Tryd.prog 49 #[.slice a len cap] w fun e w' => e = .returned (.func (.func 64) #[] #[.pointer (some ⟨w.heap.size, 0, none⟩)]) ∧ w' = w.alloc (.cells #[.slice a len cap] 101) := by
  refine callsIn_of_wp Tryd.func49 rfl trivial ?_ rfl
  simp only [Tryd.ntmps49, List.size_toArray, List.length_cons, List.length_nil, Nat.reduceAdd, Nat.reduceSub, Array.replicate_succ, Array.replicate_zero, List.push_toArray, List.append_toArray, List.nil_append, List.cons_append]
  gi_wp2
  go_ret
  exact ⟨rfl, rfl⟩
theorem bkStopsE {w0 : World} {M : Nat} (es : List (BEE w0 M)) (c : Option Nat) (n : Nat) (hn : 1 ≤ n) (Bs bm n₀ g len cap : Nat) (w : World) (hlen : es.length = len) (hb : len ≤ 1000000) (hBn : Bs < n₀) (hgn : g < n₀) (hn₀ : n₀ ≤ w.heap.size) (hBC : ¬ OnC c Bs) (hgC : ¬ OnC c g) (hBm : Bs ≠ bm) (hgm : g ≠ bm)
    (hBs : w.cell? ⟨Bs, 0, none⟩ = some (.slice (some ⟨g, 0, none⟩) len cap)) (hi : ∀ (j : Nat) (h : j < es.length), es[j].i = j) (hc : ∀ (j : Nat) (h : j < es.length), w.cell? ⟨g, j, none⟩ = some (.pointer (some ⟨es[j].b, 0, none⟩))) :
    SeqStopsK Fence.wide n Tryd.prog 64 #[.pointer (some ⟨Bs, 0, none⟩)] encsE (KpC c bm n₀) (fun ys => ys = es.reverse) (fun _ => True) len w := fun l J Jx W hW hJ _ hY h0 =>
  bk1E es c n hn l Bs bm n₀ g len cap hlen hb hBn hgn hBC hgC hBm hgm J Jx hY W ((hW.cell (p := ⟨Bs, 0, none⟩) (Nat.lt_of_lt_of_le hBn hn₀)).trans hBs) hi (fun j h => (hW.cell (p := ⟨g, j, none⟩) (Nat.lt_of_lt_of_le hgn hn₀)).trans (hc j h)) h0
/-- The nodes of a way as a list. -/
theorem besE {w0 : World} {M : Nat} (pre : List (Option Addr × Tr En Tl)) (h : ∀ x ∈ pre, IsTE w0 x.1 x.2 ∧ x.2.isNil = false ∧ x.2.wt tSz ≤ M) :
    ∃ es : List (BEE w0 M), es.length = pre.length ∧ (∀ (j : Nat) (hj : j < es.length), es[j].i = j) ∧ es.map (·.t) = pre.map (·.2) ∧ pre.map (fun x => Value.pointer x.1) = es.map (fun e => Value.pointer (some ⟨e.b, 0, none⟩)) := by
  have one : ∀ j : Fin pre.length, ∃ e : BEE w0 M, e.i = j.1 ∧ e.t = pre[j.1].2 ∧ pre[j.1].1 = some ⟨e.b, 0, none⟩ := fun j => by
    obtain ⟨h1, h2, h3⟩ := h pre[j.1] (List.getElem_mem _)
    generalize pre[j.1] = x at h1 h2 h3 ⊢
    obtain ⟨p, t⟩ := x
    dsimp only at h1 h2 h3 ⊢
    cases t with
    | nil => cases h2
    | node l k v s r =>
      have h1' := h1
      obtain ⟨b, lp, rp, rfl, _⟩ := h1'
      exact ⟨⟨j.1, b, l, r, k, v, s, h1, h3⟩, rfl, rfl, rfl⟩
  refine ⟨List.ofFn (fun j => (one j).choose), by simp, ?_, ?_, ?_⟩
  · intro j hj
    rw [List.getElem_ofFn]
    exact (one ⟨j, by simpa using hj⟩).choose_spec.1
  · apply List.ext_getElem (by simp)
    intro j h1 h2
    rw [List.getElem_map, List.getElem_ofFn, List.getElem_map]
    exact (one ⟨j, by simpa using h1⟩).choose_spec.2.1
  · apply List.ext_getElem (by simp)
    intro j h1 h2
    rw [List.getElem_map, List.getElem_map, List.getElem_ofFn]
    exact congrArg Value.pointer (one ⟨j, by simpa using h1⟩).choose_spec.2.2
end Go.Proofs.YtpbkjffiohfkcaaDoor
namespace Go.Proofs.YtpbkjffiohfkcaaDoor
open Go.RowKit Go.Shelf
set_option linter.unusedVariables false
theorem rows_wide {n : Nat} {P : Program} {row : String} {args : Array Value} {w : World} {R : Value → World → Prop} (l : Nat) (h : Rows P row args w R) : RowsIn (Fence.wide.inRound l) n P row args w R :=
  fun c cs _ => let ⟨v, w', r, s⟩ := h c cs; ⟨v, w', r, stepsIn_wide.2 s⟩
theorem oper_round {P : Program} {o : Oper} {a : Act} {w : World} {K : Act → World → Prop} {Q : Exit → Act → World → Prop} (l n : Nat) (hd : ∀ c, o.op ≠ .defer c) (h : o.wp P a w K Q) : o.wpIn (Fence.wide.inRound l) n P a w K Q := by
  refine ⟨fun _ _ => trivial, ?_⟩
  unfold Oper.wp at h
  rw [Oper.semAt_plain _ _ _ hd]
  generalize (execOp a.eval o).run P w = r at *
  cases r with
  | ok x w' =>
    cases x <;> simp only [Oper.upon, Oper.uponIn] at h ⊢ <;>
      first
        | exact h
        | exact ⟨fun e => (by cases e), CallsIn.inRound l (callsIn_wide.2 h)⟩
        | exact ⟨fun e => (by cases e), rows_wide l h⟩
  | halt x w' => cases x <;> simp only [Oper.upon, Oper.uponIn] at h ⊢ <;> exact h
theorem wpAnyIn_round {P : Program} {md : Region.Mode} {ops : Array Oper} {Q : Exit → Act → World → Prop} (l n : Nat) (hd : ∀ (i : Nat) (o : Oper), ops[i]? = some o → ∀ c, o.op ≠ .defer c) (hQ : ¬ LetsOut Q) :
    ∀ (fuel : Nat) (listed : Array Bool) (a : Act) (w : World), wpAny P md ops Q fuel listed a w → wpAnyIn (Fence.wide.inRound l) n P md ops Q fuel listed a w
  | 0, _, _, _, h => h
  | fuel + 1, _, _, _, h => ⟨h.1, fun i hi => by
      have h2 := h.2 i hi
      unfold wpOp at h2
      unfold wpOpIn
      split
      · rename_i e; simp only [e] at h2; exact wpAnyIn_round l n hd hQ fuel _ _ _ h2
      · rename_i o e
        simp only [e] at h2
        split
        · rename_i hw
          simp only [hw, if_true] at h2
          rcases h2 with h2 | h2
          · exact Oper.wpIn_mono (fun a w => wpAnyIn_round l n hd hQ fuel _ a w) (oper_round l n (hd i o e) h2)
          · exact absurd h2.2 hQ
        · rename_i hw
          simp only [hw] at h2
          exact ⟨fun _ _ => trivial, wpAnyIn_round l n hd hQ fuel _ _ _ h2⟩⟩
/-- Which operations a region has that defer: none. -/
def noDefer (ops : Array Oper) : Bool := ops.all fun o => match o.op with | .defer _ => false | _ => true
theorem noDefer_spec {ops : Array Oper} (h : noDefer ops = true) : ∀ (i : Nat) (o : Oper), ops[i]? = some o → ∀ c, o.op ≠ .defer c := fun i o e c hc => by
  unfold noDefer at h
  rw [Array.all_eq_true] at h
  obtain ⟨hlt, he⟩ := Array.getElem?_eq_some_iff.1 e
  have := h i hlt
  rw [he, hc] at this
  cases this
theorem wpIn_region_held {P : Program} {id : Nat} {ops : Array Oper} {Q : Exit → Act → World → Prop} {S : World → Prop} {a : Act} {w : World} {l n : Nat} (hm : P.follows .mixedOrders = true) (hd : noDefer ops = true) (hQ : ¬ LetsOut Q) (hS : S w.drew)
    (h : S w.drew → wpAnyH P .any ops Q S ops.size (Array.replicate ops.size false) a w.drew) : (Code.region id ops true).wpIn (Fence.wide.inRound l) n P Q a w :=
  wpIn_region_any hm (wpAnyIn_round l n (noDefer_spec hd) hQ _ _ _ _ (wpAny_of_held _ _ _ _ (h hS)))
end Go.Proofs.YtpbkjffiohfkcaaDoor
namespace Go.Proofs.YtpbkjffiohfkcaaDoor
open Go.RowKit
set_option linter.unusedVariables false
/-- Five cells of a block set. -/
def setE (W : World) (g : Nat) (e : En) : World := ((((W.setCell ⟨g, 0, none⟩ (.string e.k)).setCell ⟨g, 1, none⟩ (.int .i64 e.c)).setCell ⟨g, 2, none⟩ (.int .i64 e.n)).setCell ⟨g, 3, none⟩ (.string e.v)).setCell ⟨g, 4, none⟩ (.bool e.d)
theorem setE_same {W : World} {g : Nat} {x0 x1 x2 x3 x4 : Value} {T : TypeId} (h : W.heap[g]? = some (.cells #[x0, x1, x2, x3, x4] T (0, 0))) (e : En) : (setE W g e).heap[g]? = some (.cells #[.string e.k, .int .i64 e.c, .int .i64 e.n, .string e.v, .bool e.d] T (0, 0)) := by
  have h1 := heap_setCell_same W g 0 _ _ (.string e.k) h
  have h2 := heap_setCell_same _ g 1 _ _ (.int .i64 e.c) h1
  have h3 := heap_setCell_same _ g 2 _ _ (.int .i64 e.n) h2
  have h4 := heap_setCell_same _ g 3 _ _ (.string e.v) h3
  exact heap_setCell_same _ g 4 _ _ (.bool e.d) h4
theorem setE_other (W : World) (g k : Nat) (e : En) (h : k ≠ g) : (setE W g e).heap[k]? = W.heap[k]? := by
  unfold setE
  rw [heap_setCell_other _ _ _ _ h, heap_setCell_other _ _ _ _ h, heap_setCell_other _ _ _ _ h, heap_setCell_other _ _ _ _ h, heap_setCell_other _ _ _ _ h]
theorem setE_cell {W : World} {g : Nat} {p : Addr} {v : Value} (e : En) (h : W.cell? p = some v) (hne : p.block ≠ g) : (setE W g e).cell? p = some v := by
  have ap : ∀ {X : World} {i : Nat} {u : Value}, X.cell? p = some v → (X.setCell ⟨g, i, none⟩ u).cell? p = some v := fun {X i u} hx => (World.cell?_setCell_other _ _ _ _ (fun e => hne (by rw [← e]))).trans hx
  exact ap (ap (ap (ap (ap h))))
theorem Keeps.setE {S : Nat → Prop} {a w : World} (h : Keeps S a w) {g : Nat} (hg : g < a.heap.size → S g) (e : En) : Keeps S a (setE w g e) :=
  ((((h.setCell (p := ⟨g, 0, none⟩) hg _).setCell (p := ⟨g, 1, none⟩) hg _).setCell (p := ⟨g, 2, none⟩) hg _).setCell (p := ⟨g, 3, none⟩) hg _).setCell (p := ⟨g, 4, none⟩) hg _
theorem CntE.setE {c : Option Nat} {n : Nat} {w : World} (h : CntE c n w) {g : Nat} (hg : ¬ OnC c g) (e : En) : CntE c n (setE w g e) := fun b hb => by
  rw [setE_other]
  · exact h b hb
  · rintro rfl; exact hg hb
theorem Stay.setE {T U : TypeId} {a b : World} (h : Stay T a b) {g : Nat} {cs : Array Value} (hg : b.heap[g]? = some (.cells cs U (0, 0))) (hT : T ≠ U) (e : En) : Stay T a (setE b g e) := fun i cs' he => by
  have e1 := h i cs' he
  rw [setE_other]
  · exact e1
  · rintro rfl; rw [hg] at e1; simp at e1; exact hT e1.2.symm
theorem size_setE (W : World) (g : Nat) (e : En) : (setE W g e).heap.size = W.heap.size := by simp [_root_.Go.Proofs.YtpbkjffiohfkcaaDoor.setE, World.setCell]
end Go.Proofs.YtpbkjffiohfkcaaDoor
namespace Go.Proofs.YtpbkjffiohfkcaaDoor
open Go.RowKit Go.Shelf
set_option linter.unusedVariables false
/-- What Put has laid, beside the trees as they lay in U. -/
structure PStE (w U V : World) (tb n : Nat) (jv : Value) (root : Option Addr) (c : Option Nat) (k : ByteArray) (v : En) (s : Tl) (wo : Bool) (wi : Nat) (wu : En) : Prop where
  keeps : Keeps (OnC c) w V
  cnt : CntE c n V
  tobj : TObjE V tb jv root
  stay : Stay 107 U V
  bt : V.heap[w.heap.size]? = some (.cells #[.pointer (some ⟨tb, 0, none⟩)] 80 (0, 0))
  bk : V.heap[w.heap.size + 1]? = some (.cells #[.string k] 9 (0, 0))
  bv : V.heap[w.heap.size + 1 + 1]? = some (.cells #[.string v.k, .int .i64 v.c, .int .i64 v.n, .string v.v, .bool v.d] 54 (0, 0))
  bs : V.heap[w.heap.size + 1 + 1 + 1]? = some (.cells #[.int .i64 s.n, .int .u64 s.a, .int .u64 s.b] 32 (0, 0))
  br : V.heap[w.heap.size + 1 + 1 + 1 + 1]? = some (.cells #[.string ⟨#[]⟩, .int .i64 0, .int .i64 0, .string ⟨#[]⟩, .bool false] 54 (0, 0))
  bw : wo = true → w.heap.size + 5 ≤ wi ∧ V.heap[wi]? = some (.cells #[.string wu.k, .int .i64 wu.c, .int .i64 wu.n, .string wu.v, .bool wu.d] 54 (0, 0))
theorem PStE.drew {w U V : World} {tb n : Nat} {jv : Value} {root : Option Addr} {c : Option Nat} {k : ByteArray} {v : En} {s : Tl} {wo : Bool} {wi : Nat} {wu : En} (h : PStE w U V tb n jv root c k v s wo wi wu) : PStE w U V.drew tb n jv root c k v s wo wi wu := ⟨h.keeps.drew, h.cnt.drew, h.tobj, h.stay.drew, h.bt, h.bk, h.bv, h.bs, h.br, h.bw⟩
theorem PStE.on {w U V : World} {tb n : Nat} {jv : Value} {root : Option Addr} {c : Option Nat} {k : ByteArray} {v : En} {s : Tl} {wo : Bool} {wi : Nat} {wu : En} {V' : World} {m n0 : Nat} (h : PStE w U V tb n jv root c k v s wo wi wu) (h0 : CntE c n0 w) (kk : Keeps (OnC c) V V') (hm : CntE c m V') : PStE w U V' tb m jv root c k v s wo wi wu :=
  ⟨h.keeps.trans kk, hm, h.tobj.onC h.cnt kk, h.stay.onE h.cnt kk (by decide), blk_keep h.bt kk (h0.lt (by omega)), blk_keep h.bk kk (h0.lt (by omega)), blk_keep h.bv kk (h0.lt (by omega)), blk_keep h.bs kk (h0.lt (by omega)), blk_keep h.br kk (h0.lt (by omega)), fun e => ⟨(h.bw e).1, blk_keep (h.bw e).2 kk (h0.lt (by have := (h.bw e).1; omega))⟩⟩
theorem PStE.below {w U V : World} {tb n : Nat} {jv : Value} {root : Option Addr} {c : Option Nat} {k : ByteArray} {v : En} {s : Tl} {wo : Bool} {wi : Nat} {wu : En} {V' : World} {n0 : Nat} (h : PStE w U V tb n jv root c k v s wo wi wu) (h0 : CntE c n0 w) (b : Below V.heap.size V V') : PStE w U V' tb n jv root c k v s wo wi wu := h.on h0 (Keeps.of_below b _) (h.cnt.below b)
theorem PStE.alloc {w U V : World} {tb n : Nat} {jv : Value} {root : Option Addr} {c : Option Nat} {k : ByteArray} {v : En} {s : Tl} {wo : Bool} {wi : Nat} {wu : En} {n0 : Nat} (h : PStE w U V tb n jv root c k v s wo wi wu) (h0 : CntE c n0 w) (o : Obj) : PStE w U (V.alloc o) tb n jv root c k v s wo wi wu := h.below h0 (bnew _ _)
/-- The counter is no block that is not cells. -/
theorem onC_cells {c : Option Nat} {n : Nat} {A : World} (h : CntE c n A) {r : Nat} {o : Obj} (hr : A.heap[r]? = some o) (ho : o.isCells = false) : ¬ OnC c r := fun e => by
  have := h r e
  rw [hr] at this
  injection this with this
  subst this
  cases ho
theorem cells_own {A B : World} {row : Option Nat} {i : Nat} {cs : Array Value} {T : TypeId} (h : A.heap[i]? = some (.cells cs T (0, 0))) (hg : A.grownBy B row) (hr : ∀ r, row = some r → ∃ o : Obj, A.heap[r]? = some o ∧ o.isCells = false) : B.heap[i]? = some (.cells cs T (0, 0)) := (grownBy_keeps_cells hg hr h rfl).trans h
theorem stay_own {T : TypeId} {U A B : World} {row : Option Nat} (h : Stay T U A) (hg : A.grownBy B row) (hr : ∀ r, row = some r → ∃ o : Obj, A.heap[r]? = some o ∧ o.isCells = false) : Stay T U B := fun i cs e => cells_own (h i cs e) hg hr
theorem PStE.own {w U V : World} {tb n : Nat} {jv : Value} {root : Option Addr} {c : Option Nat} {k : ByteArray} {v : En} {s : Tl} {wo : Bool} {wi : Nat} {wu : En} {B : World} {row : Option Nat} (h : PStE w U V tb n jv root c k v s wo wi wu) (hg : V.grownBy B row) (hr : ∀ r, row = some r → w.heap.size ≤ r ∧ ∃ o : Obj, V.heap[r]? = some o ∧ o.isCells = false) : PStE w U B tb n jv root c k v s wo wi wu :=
  have hr' : ∀ r, row = some r → ∃ o : Obj, V.heap[r]? = some o ∧ o.isCells = false := fun r e => (hr r e).2
  ⟨h.keeps.grown hg (fun r e hlt => absurd hlt (by have := (hr r e).1; omega)), fun b e => cells_own (h.cnt b e) hg hr', cells_own h.tobj hg hr', stay_own h.stay hg hr', cells_own h.bt hg hr', cells_own h.bk hg hr', cells_own h.bv hg hr', cells_own h.bs hg hr', cells_own h.br hg hr', fun e => ⟨(h.bw e).1, cells_own (h.bw e).2 hg hr'⟩⟩
theorem pstE {w : World} {tb n : Nat} {jv : Value} {root : Option Addr} {c : Option Nat} (k : ByteArray) (v : En) (s : Tl) (ht : TObjE w tb jv root) (hc : CntE c n w) : PStE w (((((w.alloc (.cells #[.pointer (some ⟨tb, 0, none⟩)] 80)).alloc (.cells #[.string k] 9)).alloc (.cells #[.string v.k, .int .i64 v.c, .int .i64 v.n, .string v.v, .bool v.d] 54)).alloc (.cells #[.int .i64 s.n, .int .u64 s.a, .int .u64 s.b] 32)).alloc (.cells #[.string ⟨#[]⟩, .int .i64 0, .int .i64 0, .string ⟨#[]⟩, .bool false] 54)) (((((w.alloc (.cells #[.pointer (some ⟨tb, 0, none⟩)] 80)).alloc (.cells #[.string k] 9)).alloc (.cells #[.string v.k, .int .i64 v.c, .int .i64 v.n, .string v.v, .bool v.d] 54)).alloc (.cells #[.int .i64 s.n, .int .u64 s.a, .int .u64 s.b] 32)).alloc (.cells #[.string ⟨#[]⟩, .int .i64 0, .int .i64 0, .string ⟨#[]⟩, .bool false] 54)) tb n jv root c k v s false 0 v := by
  refine ⟨(((((Keeps.refl _ w).alloc _).alloc _).alloc _).alloc _).alloc _, ((((hc.alloc _).alloc _).alloc _).alloc _).alloc _, ?_, Stay.refl _ _, ?_, ?_, ?_, ?_, ?_, fun e => by cases e⟩
  · unfold TObjE at ht ⊢; exact blk_on (blk_on (blk_on (blk_on (blk_on ht (bnew _ _)) (bnew _ _)) (bnew _ _)) (bnew _ _)) (bnew _ _)
  · have h0 := heap_alloc_new w (.cells #[.pointer (some ⟨tb, 0, none⟩)] 80)
    try simp only [World.size_alloc] at h0
    exact blk_on (blk_on (blk_on (blk_on (h0) (bnew _ _)) (bnew _ _)) (bnew _ _)) (bnew _ _)
  · have h0 := heap_alloc_new (w.alloc (.cells #[.pointer (some ⟨tb, 0, none⟩)] 80)) (.cells #[.string k] 9)
    try simp only [World.size_alloc] at h0
    exact blk_on (blk_on (blk_on (h0) (bnew _ _)) (bnew _ _)) (bnew _ _)
  · have h0 := heap_alloc_new ((w.alloc (.cells #[.pointer (some ⟨tb, 0, none⟩)] 80)).alloc (.cells #[.string k] 9)) (.cells #[.string v.k, .int .i64 v.c, .int .i64 v.n, .string v.v, .bool v.d] 54)
    try simp only [World.size_alloc] at h0
    exact blk_on (blk_on (h0) (bnew _ _)) (bnew _ _)
  · have h0 := heap_alloc_new (((w.alloc (.cells #[.pointer (some ⟨tb, 0, none⟩)] 80)).alloc (.cells #[.string k] 9)).alloc (.cells #[.string v.k, .int .i64 v.c, .int .i64 v.n, .string v.v, .bool v.d] 54)) (.cells #[.int .i64 s.n, .int .u64 s.a, .int .u64 s.b] 32)
    try simp only [World.size_alloc] at h0
    exact blk_on (h0) (bnew _ _)
  · have h0 := heap_alloc_new ((((w.alloc (.cells #[.pointer (some ⟨tb, 0, none⟩)] 80)).alloc (.cells #[.string k] 9)).alloc (.cells #[.string v.k, .int .i64 v.c, .int .i64 v.n, .string v.v, .bool v.d] 54)).alloc (.cells #[.int .i64 s.n, .int .u64 s.a, .int .u64 s.b] 32)) (.cells #[.string ⟨#[]⟩, .int .i64 0, .int .i64 0, .string ⟨#[]⟩, .bool false] 54)
    try simp only [World.size_alloc] at h0
    exact h0
/-- The place of what was. -/
theorem PStE.was {w U V : World} {tb n : Nat} {jv : Value} {root : Option Addr} {c : Option Nat} {k : ByteArray} {v : En} {s : Tl} {wi : Nat} {wu : En} {n0 : Nat} (h : PStE w U V tb n jv root c k v s false wi wu) (h0 : CntE c n0 w) (hV : w.heap.size + 5 ≤ V.heap.size) : PStE w U (V.alloc (.cells #[.string ⟨#[]⟩, .int .i64 0, .int .i64 0, .string ⟨#[]⟩, .bool false] 54)) tb n jv root c k v s true V.heap.size eNone := by
  have h1 := h.alloc h0 (.cells #[.string ⟨#[]⟩, .int .i64 0, .int .i64 0, .string ⟨#[]⟩, .bool false] 54)
  exact ⟨h1.keeps, h1.cnt, h1.tobj, h1.stay, h1.bt, h1.bk, h1.bv, h1.bs, h1.br, fun _ => ⟨hV, heap_alloc_new V _⟩⟩
/-- What was is laid. -/
theorem PStE.setw {w U V : World} {tb n : Nat} {jv : Value} {root : Option Addr} {c : Option Nat} {k : ByteArray} {v : En} {s : Tl} {wi : Nat} {wu : En} {n0 : Nat} (h : PStE w U V tb n jv root c k v s true wi wu) (h0 : CntE c n0 w) (u : En) : PStE w U (setE V wi u) tb n jv root c k v s true wi u := by
  obtain ⟨h1, h2⟩ := h.bw rfl
  have ne : ∀ {i : Nat} {cs : Array Value} {T : TypeId}, V.heap[i]? = some (.cells cs T (0, 0)) → T ≠ 54 → (setE V wi u).heap[i]? = some (.cells cs T (0, 0)) := fun {i cs T} hi hT => by
    rw [setE_other]
    · exact hi
    · rintro rfl; rw [h2] at hi; simp at hi; exact hT hi.2.symm
  have nw : ∀ {i : Nat}, i < w.heap.size + 5 → (setE V wi u).heap[i]? = V.heap[i]? := fun {i} hi => setE_other _ _ _ _ (by omega)
  refine ⟨h.keeps.setE (fun e => by omega) u, h.cnt.setE (h0.lt (by omega)) u, ne h.tobj (by decide), h.stay.setE h2 (by decide) u, ?_, ?_, ?_, ?_, ?_, fun _ => ⟨h1, setE_same h2 u⟩⟩
  · rw [nw (by omega)]; exact h.bt
  · rw [nw (by omega)]; exact h.bk
  · rw [nw (by omega)]; exact h.bv
  · rw [nw (by omega)]; exact h.bs
  · rw [nw (by omega)]; exact h.br
/-- Between two rounds: the tree made so far lies in the block Bm. -/
structure PIE (w U W0 : World) (tb n Bm M : Nat) (jv : Value) (root : Option Addr) (c : Option Nat) (k : ByteArray) (v : En) (s : Tl) (wo : Bool) (wi : Nat) (wu : En) (B0 : Tr En Tl) (pre : List (BEE U M)) (W : World) : Prop where
  st : PStE w U W tb (n + Tr.upsC k B0 (pre.map (·.t))) jv root c k v s wo wi wu
  made : ∃ q, W.heap[Bm]? = some (.cells #[.pointer q] 97 (0, 0)) ∧ IsTE W q (Tr.ups k B0 (pre.map (·.t)))
  kp : KpC c Bm W0.heap.size W0 W
theorem PIE.own {w U W0 : World} {tb n Bm M : Nat} {jv : Value} {root : Option Addr} {c : Option Nat} {k : ByteArray} {v : En} {s : Tl} {wo : Bool} {wi : Nat} {wu : En} {B0 : Tr En Tl} (hw : w.heap.size ≤ W0.heap.size) : OwnFrom W0.heap.size (PIE w U W0 tb n Bm M jv root c k v s wo wi wu B0) :=
  fun pre A B row hs hg hr => by
    have hr' : ∀ r, row = some r → ∃ o : Obj, A.heap[r]? = some o ∧ o.isCells = false := fun r e => (hr r e).2
    obtain ⟨h1, ⟨q, h2, h3⟩, h4⟩ := hs
    exact ⟨h1.own hg (fun r e => ⟨by have := (hr r e).1; omega, (hr r e).2⟩), ⟨q, cells_own h2 hg hr', h3.on (stay_own (Stay.refl _ _) hg hr')⟩, h4.grown hg (fun r e _ => .inr (.inr (hr r e).1))⟩
/-- The root and the answer are laid, the round's deferred calls are gone. -/
theorem putEndE {w U W : World} {tb n D : Nat} {jv : Value} {root q : Option Addr} {c : Option Nat} {k : ByteArray} {v : En} {s : Tl} {wi : Nat} {wu : En} {T' : Tr En Tl} {o o' : Obj} {n0 : Nat} (h : PStE w U W tb n jv root c k v s true wi wu) (h0 : CntE c n0 w) (hq : IsTE W q T') (hD : W.heap[D]? = some o) (ho : o.isCells = false) (hw : w.heap.size ≤ D) :
    (fun X : World => (∃ p, TObjE X tb jv p ∧ IsTE X p T') ∧ CntE c n X ∧ Keeps (fun x => x = tb ∨ OnC c x) w X ∧ X.heap[w.heap.size + 4]? = some (.cells #[.string wu.k, .int .i64 wu.c, .int .i64 wu.n, .string wu.v, .bool wu.d] 54 (0, 0))) ((setE (W.setCell ⟨tb, 4, none⟩ (.pointer q)) (w.heap.size + 4) wu).putObj D o') := by
  have ht := h.tobj
  have hne : tb ≠ D := fun e => by
    unfold TObjE at ht
    rw [e, hD] at ht
    injection ht with ht
    subst ht
    cases ho
  have hbr := h.br
  have htr : tb ≠ w.heap.size + 4 := fun e => by unfold TObjE at ht; rw [e, hbr] at ht; simp at ht
  have h1 : TObjE (W.setCell ⟨tb, 4, none⟩ (.pointer q)) tb jv q := heap_setCell_same W tb 4 _ _ (.pointer q) ht
  have hbr1 : (W.setCell ⟨tb, 4, none⟩ (.pointer q)).heap[w.heap.size + 4]? = some (.cells #[.string ⟨#[]⟩, .int .i64 0, .int .i64 0, .string ⟨#[]⟩, .bool false] 54 (0, 0)) := (heap_setCell_other _ _ _ _ (fun e => htr e.symm)).trans hbr
  have hDr : D ≠ w.heap.size + 4 := fun e => by rw [e, hbr] at hD; injection hD with hD; subst hD; cases ho
  have hD1 : (setE (W.setCell ⟨tb, 4, none⟩ (.pointer q)) (w.heap.size + 4) wu).heap[D]? = some o := (setE_other _ _ _ _ hDr).trans ((heap_setCell_other _ _ _ _ (fun e => hne e.symm)).trans hD)
  have hg := grownBy_putObj' (setE (W.setCell ⟨tb, 4, none⟩ (.pointer q)) (w.heap.size + 4) wu) D o'
  have hr : ∀ r, some D = some r → ∃ o : Obj, (setE (W.setCell ⟨tb, 4, none⟩ (.pointer q)) (w.heap.size + 4) wu).heap[r]? = some o ∧ o.isCells = false := fun r e => by cases e; exact ⟨o, hD1, ho⟩
  have st : Stay 107 W (setE (W.setCell ⟨tb, 4, none⟩ (.pointer q)) (w.heap.size + 4) wu) := ((Stay.refl _ W).setCell _ (fun cs e => by dsimp only at e; unfold TObjE at ht; rw [ht] at e; simp at e)).setE hbr1 (by decide) wu
  have hC1 : CntE c n (setE (W.setCell ⟨tb, 4, none⟩ (.pointer q)) (w.heap.size + 4) wu) := (h.cnt.setCell (p := ⟨tb, 4, none⟩) _ (h.cnt.apart ht (by decide))).setE (h0.lt (by omega)) wu
  have h1' : TObjE (setE (W.setCell ⟨tb, 4, none⟩ (.pointer q)) (w.heap.size + 4) wu) tb jv q := (setE_other _ _ _ _ htr).trans h1
  refine ⟨⟨q, cells_own h1' hg hr, hq.on (stay_own st hg hr)⟩, fun b e => cells_own (hC1 b e) hg hr, ?_, cells_own (setE_same hbr1 wu) hg hr⟩
  exact (((h.keeps.mono (fun _ _ e => .inr e)).setCell (fun _ => .inl rfl) _).setE (fun e => by omega) wu).grown hg (fun r e hlt => by cases e; omega)
/-- The deferred calls' block, when all is laid. -/
theorem putDefE {w U W : World} {tb n D : Nat} {jv : Value} {root q : Option Addr} {c : Option Nat} {k : ByteArray} {v e : En} {s : Tl} {wi : Nat} {wu : En} {o : Obj} (h : PStE w U W tb n jv root c k v s true wi wu) (hD : W.heap[D]? = some o) (ho : o.isCells = false) : (setE (W.setCell ⟨tb, 4, none⟩ (.pointer q)) (w.heap.size + 4) e).heap[D]? = some o := by
  have hbr := h.br
  have ht := h.tobj
  unfold TObjE at ht
  refine (setE_other _ _ _ _ (fun e => by rw [e, hbr] at hD; injection hD with hD; subst hD; cases ho)).trans ((heap_setCell_other _ _ _ _ (fun e => by dsimp only at e; rw [e, ht] at hD; injection hD with hD; subst hD; cases ho)).trans hD)
/-- The cells of what was, and of the answer, when the root is laid. -/
theorem putLastE {w U W : World} {tb n : Nat} {jv : Value} {root q : Option Addr} {c : Option Nat} {k : ByteArray} {v : En} {s : Tl} {wi : Nat} {wu : En} (h : PStE w U W tb n jv root c k v s true wi wu) :
    (W.setCell ⟨tb, 4, none⟩ (.pointer q)).heap[wi]? = some (.cells #[.string wu.k, .int .i64 wu.c, .int .i64 wu.n, .string wu.v, .bool wu.d] 54 (0, 0)) ∧ (W.setCell ⟨tb, 4, none⟩ (.pointer q)).heap[w.heap.size + 4]? = some (.cells #[.string ⟨#[]⟩, .int .i64 0, .int .i64 0, .string ⟨#[]⟩, .bool false] 54 (0, 0)) := by
  have ht := h.tobj
  obtain ⟨h1, h2⟩ := h.bw rfl
  have hbr := h.br
  unfold TObjE at ht
  exact ⟨(heap_setCell_other _ _ _ _ (fun e => by dsimp only at e; rw [← e, h2] at ht; simp at ht)).trans h2, (heap_setCell_other _ _ _ _ (fun e => by dsimp only at e; rw [← e, hbr] at ht; simp at ht)).trans hbr⟩
/-- The nodes of the way, as they lie in the row. -/
theorem putRowsE {U w1 : World} {k : ByteArray} {T : Tr En Tl} {pre : List (Option Addr × Tr En Tl)} {bb cap : Nat} (d2 : w1.ownsRow U.heap.size 97 1 (.slice (some ⟨bb, 0, none⟩) pre.length cap) pre.length (ptrsE pre)) (d4 : ∀ x ∈ pre, IsTE U x.1 x.2) (d5 : pre.map (·.2) = Tr.path k T) :
    ∃ es : List (BEE U (T.wt tSz)), es.length = pre.length ∧ (∀ (j : Nat) (hj : j < es.length), es[j].i = j) ∧ es.map (·.t) = Tr.path k T ∧ (∀ (j : Nat) (hj : j < es.length), w1.cell? ⟨bb, j, none⟩ = some (.pointer (some ⟨es[j].b, 0, none⟩))) ∧ bb < w1.heap.size ∧ U.heap.size ≤ bb := by
  obtain ⟨es, h1, h2, h3, h4⟩ := besE (M := T.wt tSz) pre (fun x hx => by
    have hm : x.2 ∈ Tr.path k T := by rw [← d5]; exact List.mem_map_of_mem hx
    exact ⟨d4 x hx, Tr.path_node k T _ hm, Tr.wt_path tSz k T _ hm⟩)
  refine ⟨es, h1, h2, h3.trans d5, fun j hj => ?_, (d2.lt bb rfl).2, (d2.lt bb rfl).1⟩
  rw [d2.cellAt j (by omega), show ptrsE pre = es.map (fun e => Value.pointer (some ⟨e.b, 0, none⟩)) from h4, List.getElem?_map, List.getElem?_eq_getElem hj]
  rfl
/-- Where the loop begins. -/
theorem putMidE {w U w1 w2 : World} {tb n bb : Nat} {jv : Value} {root p1 : Option Addr} {c : Option Nat} {k : ByteArray} {v : En} {s : Tl} {wo : Bool} {wi : Nat} {wu : En} {T B0 : Tr En Tl} {es : List (BEE U (T.wt tSz))} {n0 len cap : Nat} (H2 : PStE w U w2 tb n jv root c k v s wo wi wu) (I1 : IsTE w2 p1 B0) (h0 : CntE c n0 w) (hU : w.heap.size ≤ U.heap.size)
    (E4 : ∀ (j : Nat) (h : j < es.length), w2.cell? ⟨bb, j, none⟩ = some (.pointer (some ⟨es[j].b, 0, none⟩))) (E5 : bb < w1.heap.size) (E6 : U.heap.size ≤ bb) (W1 : w1.heap.size ≤ w2.heap.size) :
    (fun W0 : World => PIE w U W0 tb n w2.heap.size (T.wt tSz) jv root c k v s wo wi wu B0 [] W0 ∧ W0.heap[w2.heap.size + 1]? = some (.cells #[.slice (some ⟨bb, 0, none⟩) len cap] 101 (0, 0)) ∧
      (∀ (j : Nat) (h : j < es.length), W0.cell? ⟨bb, j, none⟩ = some (.pointer (some ⟨es[j].b, 0, none⟩))) ∧ w2.heap.size + 1 < W0.heap.size ∧ bb < W0.heap.size ∧ ¬ OnC c (w2.heap.size + 1) ∧ ¬ OnC c bb ∧ w.heap.size ≤ W0.heap.size)
    ((w2.alloc (.cells #[.pointer p1] 97)).alloc (.cells #[.slice (some ⟨bb, 0, none⟩) len cap] 101)) := by
  have hs := H2.keeps.size
  have h1 := heap_alloc_new (w2.alloc (.cells #[.pointer p1] 97)) (.cells #[.slice (some ⟨bb, 0, none⟩) len cap] 101)
  simp only [World.size_alloc] at h1
  refine ⟨⟨(H2.alloc h0 _).alloc h0 _, ⟨p1, blk_on (heap_alloc_new w2 _) (bnew _ _), I1.on (((Stay.refl _ _).alloc _).alloc _)⟩, Keeps.refl _ _⟩, h1, fun j h => ?_, by simp, by simp; omega, h0.lt (by omega), h0.lt (by omega), by simp; omega⟩
  exact ((bthen (bnew w2 _) (bnew _ _)).cell (p := ⟨bb, j, none⟩) (by dsimp only; omega)).trans (E4 j h)
/-- The block of the tree that is made is set anew. -/
theorem PStE.set {w U V : World} {tb n n0 Bm : Nat} {jv : Value} {root : Option Addr} {c : Option Nat} {k : ByteArray} {v : En} {s : Tl} {wo : Bool} {wi : Nat} {wu : En} {q : Option Addr} (h : PStE w U V tb n jv root c k v s wo wi wu) (h0 : CntE c n0 w) (hm : V.heap[Bm]? = some (.cells #[.pointer q] 97 (0, 0))) (hB : w.heap.size ≤ Bm) (p : Option Addr) : PStE w U (V.setCell ⟨Bm, 0, none⟩ (.pointer p)) tb n jv root c k v s wo wi wu := by
  have ne : ∀ {i : Nat} {cs : Array Value} {T : TypeId}, V.heap[i]? = some (.cells cs T (0, 0)) → T ≠ 97 → (V.setCell ⟨Bm, 0, none⟩ (.pointer p)).heap[i]? = some (.cells cs T (0, 0)) := fun {i cs T} hi hT => by
    rw [heap_setCell_other]
    · exact hi
    · rintro rfl; rw [hm] at hi; simp at hi; exact hT hi.2.symm
  exact ⟨h.keeps.setCell (fun e => by dsimp only at e; omega) _, h.cnt.setCell _ (h0.lt hB), ne h.tobj (by decide), h.stay.setCell _ (fun cs e => by dsimp only at e; rw [hm] at e; simp at e), ne h.bt (by decide), ne h.bk (by decide), ne h.bv (by decide), ne h.bs (by decide), ne h.br (by decide), fun e => ⟨(h.bw e).1, ne (h.bw e).2 (by decide)⟩⟩
/-- The counter's block alone has turned: what is no cells lies as it lay. -/
theorem othersE {c : Option Nat} {n : Nat} {A B : World} (h : CntE c n A) (k : Keeps (OnC c) A B) : KeepsOthers A B := ⟨k.size, fun i o e ho => blk_keep e k (onC_cells h e ho)⟩
/-- A round. -/
theorem putStepE {w U W0 W w9 : World} {tb n n0 Bm M : Nat} {jv : Value} {root p : Option Addr} {c : Option Nat} {k : ByteArray} {v : En} {s : Tl} {wo : Bool} {wi : Nat} {wu : En} {B0 : Tr En Tl} {pre : List (BEE U M)} {x : BEE U M} (hI : PIE w U W0 tb n Bm M jv root c k v s wo wi wu B0 pre W) (h0 : CntE c n0 w) (hB : w.heap.size ≤ Bm)
    (kk : Keeps (OnC c) W w9) (bc : CntE c (n + Tr.upsC k B0 (pre.map (·.t)) + Tr.stepC k x.t (Tr.ups k B0 (pre.map (·.t)))) w9) (ii : IsTE w9 p (Tr.step k x.t (Tr.ups k B0 (pre.map (·.t))))) :
    KeepsFrom W0.heap.size W (w9.setCell ⟨Bm, 0, none⟩ (.pointer p)) ∧ KpC c Bm W0.heap.size W (w9.setCell ⟨Bm, 0, none⟩ (.pointer p)) ∧ PIE w U W0 tb n Bm M jv root c k v s wo wi wu B0 (pre ++ [x]) (w9.setCell ⟨Bm, 0, none⟩ (.pointer p)) := by
  obtain ⟨st, ⟨q, hm, hq⟩, kp⟩ := hI
  have hm9 := blk_keep hm kk (h0.lt hB)
  have st9 := st.on h0 kk bc
  have k1 : KpC c Bm W0.heap.size W (w9.setCell ⟨Bm, 0, none⟩ (.pointer p)) := (kk.mono (fun _ _ e => .inl e)).setCell (fun _ => .inr (.inl rfl)) _
  have e1 : Tr.ups k B0 ((pre ++ [x]).map (·.t)) = Tr.step k x.t (Tr.ups k B0 (pre.map (·.t))) := by rw [List.map_append]; exact Tr.ups_snoc k B0 _ _
  have e2 : n + Tr.upsC k B0 ((pre ++ [x]).map (·.t)) = n + Tr.upsC k B0 (pre.map (·.t)) + Tr.stepC k x.t (Tr.ups k B0 (pre.map (·.t))) := by rw [List.map_append, Nat.add_assoc]; exact congrArg (n + ·) (Tr.upsC_snoc k _ B0 _)
  refine ⟨((othersE st.cnt kk).trans (KeepsOthers.setCell _ _ _)).from _, k1, ?_, ?_, kp.t k1⟩
  · rw [e2]; exact st9.set h0 hm9 hB p
  · rw [e1]
    exact ⟨p, heap_setCell_same w9 Bm 0 _ _ (.pointer p) hm9, ii.on ((Stay.refl _ _).setCell _ (fun cs e => by dsimp only at e; rw [hm9] at e; simp at e))⟩
/-- What a round may hold. -/
theorem putRoomE {U : World} {k : ByteArray} {s : Tl} {T B0 : Tr En Tl} {es pre : List (BEE U (T.wt tSz))} {len : Nat} (h1 : es.length = len) (h3 : es.map (·.t) = Tr.path k T) (hlt : pre.length < len) (hB : B0.wt tSz ≤ T.wt tSz + 1 + tSz s) (hw : (T.ht + 2) * (T.wt tSz + 1 + tSz s) ≤ 4611686018427387904) :
    (Tr.ups k B0 (pre.map (·.t))).wt tSz + T.wt tSz ≤ 4611686018427387904 := by
  have a1 := Tr.wt_ups tSz k (T.wt tSz) (pre.map (·.t)) B0 (fun t ht => by obtain ⟨x, _, rfl⟩ := List.mem_map.1 ht; exact x.le)
  rw [List.length_map] at a1
  have a2 := Tr.path_le k T
  rw [← h3, List.length_map] at a2
  have a3 : pre.length * T.wt tSz ≤ T.ht * (T.wt tSz + 1 + tSz s) := Nat.mul_le_mul (by omega) (by omega)
  have a4 : (T.ht + 2) * (T.wt tSz + 1 + tSz s) = T.ht * (T.wt tSz + 1 + tSz s) + 2 * (T.wt tSz + 1 + tSz s) := Nat.add_mul _ _ _
  omega
theorem putHeldlE {w U X : World} {tb n b : Nat} {jv : Value} {root lp rp : Option Addr} {c : Option Nat} {k xk : ByteArray} {v xv : En} {wo : Bool} {wi : Nat} {wu : En} {s xs xq : Tl} {xc xh : Int} (h : PStE w U X tb n jv root c k v s wo wi wu) (hb : U.heap[b]? = some (.cells #[.string xk, .string xv.k, .int .i64 xv.c, .int .i64 xv.n, .string xv.v, .bool xv.d, .int .i64 xs.n, .int .u64 xs.a, .int .u64 xs.b, .pointer lp, .pointer rp, .int .i64 xc, .int .i64 xh, .int .i64 xq.n, .int .u64 xq.a, .int .u64 xq.b] 107 (0, 0))) : X.cell? ⟨w.heap.size, 0, none⟩ = some (.pointer (some ⟨tb, 0, none⟩)) ∧ X.cell? ⟨b, 0, none⟩ = some (.string xk) ∧ X.cell? ⟨b, 1, none⟩ = some (.string xv.k) ∧ X.cell? ⟨b, 2, none⟩ = some (.int .i64 xv.c) ∧ X.cell? ⟨b, 3, none⟩ = some (.int .i64 xv.n) ∧ X.cell? ⟨b, 4, none⟩ = some (.string xv.v) ∧ X.cell? ⟨b, 5, none⟩ = some (.bool xv.d) ∧ X.cell? ⟨b, 6, none⟩ = some (.int .i64 xs.n) ∧ X.cell? ⟨b, 7, none⟩ = some (.int .u64 xs.a) ∧ X.cell? ⟨b, 8, none⟩ = some (.int .u64 xs.b) ∧ X.cell? ⟨b, 9, none⟩ = some (.pointer lp) := by
  have hn := nodeE (h.stay _ _ hb)
  obtain ⟨n0, n1, n2, n3, n4, n5, n6, n7, n8, n9, -, -, -, -, -, -⟩ := hn
  exact ⟨cell_one h.bt, n0, n1, n2, n3, n4, n5, n6, n7, n8, n9⟩
theorem putSetlE {w U W w9 : World} {tb n n0 b Bm : Nat} {jv u : Value} {root lp rp q : Option Addr} {c : Option Nat} {k xk : ByteArray} {v xv : En} {wo : Bool} {wi : Nat} {wu : En} {s xs xq : Tl} {xc xh : Int} (hd : w9.cell? ⟨w.heap.size, 0, none⟩ = some (.pointer (some ⟨tb, 0, none⟩)) ∧ w9.cell? ⟨b, 0, none⟩ = some (.string xk) ∧ w9.cell? ⟨b, 1, none⟩ = some (.string xv.k) ∧ w9.cell? ⟨b, 2, none⟩ = some (.int .i64 xv.c) ∧ w9.cell? ⟨b, 3, none⟩ = some (.int .i64 xv.n) ∧ w9.cell? ⟨b, 4, none⟩ = some (.string xv.v) ∧ w9.cell? ⟨b, 5, none⟩ = some (.bool xv.d) ∧ w9.cell? ⟨b, 6, none⟩ = some (.int .i64 xs.n) ∧ w9.cell? ⟨b, 7, none⟩ = some (.int .u64 xs.a) ∧ w9.cell? ⟨b, 8, none⟩ = some (.int .u64 xs.b) ∧ w9.cell? ⟨b, 9, none⟩ = some (.pointer lp)) (hb : U.heap[b]? = some (.cells #[.string xk, .string xv.k, .int .i64 xv.c, .int .i64 xv.n, .string xv.v, .bool xv.d, .int .i64 xs.n, .int .u64 xs.a, .int .u64 xs.b, .pointer lp, .pointer rp, .int .i64 xc, .int .i64 xh, .int .i64 xq.n, .int .u64 xq.a, .int .u64 xq.b] 107 (0, 0))) (h : PStE w U W tb n jv root c k v s wo wi wu) (kk : Keeps (OnC c) W w9) (h0 : CntE c n0 w) (hm : w9.heap[Bm]? = some (.cells #[.pointer q] 97 (0, 0))) : (w9.setCell ⟨Bm, 0, none⟩ u).cell? ⟨w.heap.size, 0, none⟩ = some (.pointer (some ⟨tb, 0, none⟩)) ∧ (w9.setCell ⟨Bm, 0, none⟩ u).cell? ⟨b, 0, none⟩ = some (.string xk) ∧ (w9.setCell ⟨Bm, 0, none⟩ u).cell? ⟨b, 1, none⟩ = some (.string xv.k) ∧ (w9.setCell ⟨Bm, 0, none⟩ u).cell? ⟨b, 2, none⟩ = some (.int .i64 xv.c) ∧ (w9.setCell ⟨Bm, 0, none⟩ u).cell? ⟨b, 3, none⟩ = some (.int .i64 xv.n) ∧ (w9.setCell ⟨Bm, 0, none⟩ u).cell? ⟨b, 4, none⟩ = some (.string xv.v) ∧ (w9.setCell ⟨Bm, 0, none⟩ u).cell? ⟨b, 5, none⟩ = some (.bool xv.d) ∧ (w9.setCell ⟨Bm, 0, none⟩ u).cell? ⟨b, 6, none⟩ = some (.int .i64 xs.n) ∧ (w9.setCell ⟨Bm, 0, none⟩ u).cell? ⟨b, 7, none⟩ = some (.int .u64 xs.a) ∧ (w9.setCell ⟨Bm, 0, none⟩ u).cell? ⟨b, 8, none⟩ = some (.int .u64 xs.b) ∧ (w9.setCell ⟨Bm, 0, none⟩ u).cell? ⟨b, 9, none⟩ = some (.pointer lp) := by
  have hb9 := blk_keep (h.stay _ _ hb) kk (h.cnt.apart (h.stay _ _ hb) (by decide))
  have ht9 := blk_keep h.bt kk (h0.lt (Nat.le_refl _))
  have n1 : Bm ≠ b := fun e => by rw [← e, hm] at hb9; simp at hb9
  have n2 : Bm ≠ w.heap.size := fun e => by rw [← e, hm] at ht9; simp at ht9
  obtain ⟨h1, g0, g1, g2, g3, g4, g5, g6, g7, g8, g9⟩ := hd
  have ap : ∀ {p : Addr} {y : Value}, w9.cell? p = some y → Bm ≠ p.block → (w9.setCell ⟨Bm, 0, none⟩ u).cell? p = some y := fun {p y} hy hne => (World.cell?_setCell_other _ _ _ _ (fun e => hne (by rw [← e]))).trans hy
  exact ⟨ap h1 n2, ap g0 n1, ap g1 n1, ap g2 n1, ap g3 n1, ap g4 n1, ap g5 n1, ap g6 n1, ap g7 n1, ap g8 n1, ap g9 n1⟩
theorem putHeldrE {w U X : World} {tb n b : Nat} {jv : Value} {root lp rp : Option Addr} {c : Option Nat} {k xk : ByteArray} {v xv : En} {wo : Bool} {wi : Nat} {wu : En} {s xs xq : Tl} {xc xh : Int} (h : PStE w U X tb n jv root c k v s wo wi wu) (hb : U.heap[b]? = some (.cells #[.string xk, .string xv.k, .int .i64 xv.c, .int .i64 xv.n, .string xv.v, .bool xv.d, .int .i64 xs.n, .int .u64 xs.a, .int .u64 xs.b, .pointer lp, .pointer rp, .int .i64 xc, .int .i64 xh, .int .i64 xq.n, .int .u64 xq.a, .int .u64 xq.b] 107 (0, 0))) : X.cell? ⟨w.heap.size, 0, none⟩ = some (.pointer (some ⟨tb, 0, none⟩)) ∧ X.cell? ⟨b, 0, none⟩ = some (.string xk) ∧ X.cell? ⟨b, 1, none⟩ = some (.string xv.k) ∧ X.cell? ⟨b, 2, none⟩ = some (.int .i64 xv.c) ∧ X.cell? ⟨b, 3, none⟩ = some (.int .i64 xv.n) ∧ X.cell? ⟨b, 4, none⟩ = some (.string xv.v) ∧ X.cell? ⟨b, 5, none⟩ = some (.bool xv.d) ∧ X.cell? ⟨b, 6, none⟩ = some (.int .i64 xs.n) ∧ X.cell? ⟨b, 7, none⟩ = some (.int .u64 xs.a) ∧ X.cell? ⟨b, 8, none⟩ = some (.int .u64 xs.b) ∧ X.cell? ⟨b, 10, none⟩ = some (.pointer rp) := by
  have hn := nodeE (h.stay _ _ hb)
  obtain ⟨n0, n1, n2, n3, n4, n5, n6, n7, n8, -, n10, -, -, -, -, -⟩ := hn
  exact ⟨cell_one h.bt, n0, n1, n2, n3, n4, n5, n6, n7, n8, n10⟩
theorem putSetrE {w U W w9 : World} {tb n n0 b Bm : Nat} {jv u : Value} {root lp rp q : Option Addr} {c : Option Nat} {k xk : ByteArray} {v xv : En} {wo : Bool} {wi : Nat} {wu : En} {s xs xq : Tl} {xc xh : Int} (hd : w9.cell? ⟨w.heap.size, 0, none⟩ = some (.pointer (some ⟨tb, 0, none⟩)) ∧ w9.cell? ⟨b, 0, none⟩ = some (.string xk) ∧ w9.cell? ⟨b, 1, none⟩ = some (.string xv.k) ∧ w9.cell? ⟨b, 2, none⟩ = some (.int .i64 xv.c) ∧ w9.cell? ⟨b, 3, none⟩ = some (.int .i64 xv.n) ∧ w9.cell? ⟨b, 4, none⟩ = some (.string xv.v) ∧ w9.cell? ⟨b, 5, none⟩ = some (.bool xv.d) ∧ w9.cell? ⟨b, 6, none⟩ = some (.int .i64 xs.n) ∧ w9.cell? ⟨b, 7, none⟩ = some (.int .u64 xs.a) ∧ w9.cell? ⟨b, 8, none⟩ = some (.int .u64 xs.b) ∧ w9.cell? ⟨b, 10, none⟩ = some (.pointer rp)) (hb : U.heap[b]? = some (.cells #[.string xk, .string xv.k, .int .i64 xv.c, .int .i64 xv.n, .string xv.v, .bool xv.d, .int .i64 xs.n, .int .u64 xs.a, .int .u64 xs.b, .pointer lp, .pointer rp, .int .i64 xc, .int .i64 xh, .int .i64 xq.n, .int .u64 xq.a, .int .u64 xq.b] 107 (0, 0))) (h : PStE w U W tb n jv root c k v s wo wi wu) (kk : Keeps (OnC c) W w9) (h0 : CntE c n0 w) (hm : w9.heap[Bm]? = some (.cells #[.pointer q] 97 (0, 0))) : (w9.setCell ⟨Bm, 0, none⟩ u).cell? ⟨w.heap.size, 0, none⟩ = some (.pointer (some ⟨tb, 0, none⟩)) ∧ (w9.setCell ⟨Bm, 0, none⟩ u).cell? ⟨b, 0, none⟩ = some (.string xk) ∧ (w9.setCell ⟨Bm, 0, none⟩ u).cell? ⟨b, 1, none⟩ = some (.string xv.k) ∧ (w9.setCell ⟨Bm, 0, none⟩ u).cell? ⟨b, 2, none⟩ = some (.int .i64 xv.c) ∧ (w9.setCell ⟨Bm, 0, none⟩ u).cell? ⟨b, 3, none⟩ = some (.int .i64 xv.n) ∧ (w9.setCell ⟨Bm, 0, none⟩ u).cell? ⟨b, 4, none⟩ = some (.string xv.v) ∧ (w9.setCell ⟨Bm, 0, none⟩ u).cell? ⟨b, 5, none⟩ = some (.bool xv.d) ∧ (w9.setCell ⟨Bm, 0, none⟩ u).cell? ⟨b, 6, none⟩ = some (.int .i64 xs.n) ∧ (w9.setCell ⟨Bm, 0, none⟩ u).cell? ⟨b, 7, none⟩ = some (.int .u64 xs.a) ∧ (w9.setCell ⟨Bm, 0, none⟩ u).cell? ⟨b, 8, none⟩ = some (.int .u64 xs.b) ∧ (w9.setCell ⟨Bm, 0, none⟩ u).cell? ⟨b, 10, none⟩ = some (.pointer rp) := by
  have hb9 := blk_keep (h.stay _ _ hb) kk (h.cnt.apart (h.stay _ _ hb) (by decide))
  have ht9 := blk_keep h.bt kk (h0.lt (Nat.le_refl _))
  have n1 : Bm ≠ b := fun e => by rw [← e, hm] at hb9; simp at hb9
  have n2 : Bm ≠ w.heap.size := fun e => by rw [← e, hm] at ht9; simp at ht9
  obtain ⟨h1, g0, g1, g2, g3, g4, g5, g6, g7, g8, g9⟩ := hd
  have ap : ∀ {p : Addr} {y : Value}, w9.cell? p = some y → Bm ≠ p.block → (w9.setCell ⟨Bm, 0, none⟩ u).cell? p = some y := fun {p y} hy hne => (World.cell?_setCell_other _ _ _ _ (fun e => hne (by rw [← e]))).trans hy
  exact ⟨ap h1 n2, ap g0 n1, ap g1 n1, ap g2 n1, ap g3 n1, ap g4 n1, ap g5 n1, ap g6 n1, ap g7 n1, ap g8 n1, ap g9 n1⟩
theorem putBaseAE {k : ByteArray} {v : En} {s : Tl} {T : Tr En Tl} (hF : Tr.found k T = .nil) : (Tr.node .nil k v s .nil : Tr En Tl).wt tSz ≤ T.wt tSz + 1 + tSz s := by
  simp only [Tr.wt]; omega
theorem putBaseBE {k fk : ByteArray} {v fv : En} {s fs : Tl} {T fl fr : Tr En Tl} (hF : Tr.found k T = .node fl fk fv fs fr) : (Tr.node fl k v s fr).wt tSz ≤ T.wt tSz + 1 + tSz s := by
  have h2 := Tr.wt_found tSz k T
  rw [hF] at h2
  simp only [Tr.wt] at h2 ⊢
  omega
theorem putFitAE {k : ByteArray} {v : En} {s : Tl} {T : Tr En Tl} (hF : Tr.found k T = .nil) (hw : (T.ht + 2) * (T.wt tSz + 1 + tSz s) ≤ 4611686018427387904) : (Tr.node .nil k v s .nil : Tr En Tl).wt tSz ≤ 4611686018427387904 := by
  have h1 : 1 * (T.wt tSz + 1 + tSz s) ≤ (T.ht + 2) * (T.wt tSz + 1 + tSz s) := Nat.mul_le_mul_right _ (by omega)
  simp only [Tr.wt]
  omega
theorem putFitBE {k fk : ByteArray} {v fv : En} {s fs : Tl} {T fl fr : Tr En Tl} (hF : Tr.found k T = .node fl fk fv fs fr) (hw : (T.ht + 2) * (T.wt tSz + 1 + tSz s) ≤ 4611686018427387904) : (Tr.node fl k v s fr).wt tSz ≤ 4611686018427387904 := by
  have h1 : 1 * (T.wt tSz + 1 + tSz s) ≤ (T.ht + 2) * (T.wt tSz + 1 + tSz s) := Nat.mul_le_mul_right _ (by omega)
  have h2 := Tr.wt_found tSz k T
  rw [hF] at h2
  simp only [Tr.wt] at h2 ⊢
  omega
end Go.Proofs.YtpbkjffiohfkcaaDoor

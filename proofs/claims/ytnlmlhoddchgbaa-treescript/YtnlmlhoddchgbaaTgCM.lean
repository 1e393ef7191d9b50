/-
  fold (M): its contract, what it lays.
  fold (M), the first cases.
  fold (M), a case.
  fold (M), a case.
  fold (M), a case.
  fold (M), a case.
  fold (M).
  Fold (M).
-/
import Derived.Test.YtnlmlhoddchgbaaTgAM
import Derived.Test.YtnlmlhoddchgbaaTgBM
namespace Go.Proofs.Ytnlmlhoddchgbaa
open Go.RowKit
set_option linter.unusedVariables false

/-- fold answers as the plain function says, and counts so. -/
def FoldOkM (jv : Value) (c : Option Nat) (T : Tr Int Mp) : Prop :=
  ∀ (w : World) (tb n i j : Nat) (I J : Int) (root p : Option Addr), I = (i : Int) → J = (j : Int) → TObjM w tb jv root → Cnt c n w → IsTM w p T → i < j → j ≤ T.cnt →
    Calls Try.prog 53 #[.pointer (some ⟨tb, 0, none⟩), .pointer p, .int .i64 I, .int .i64 J] w fun e w' => e = .returned (.agg #[.int .u64 (Tr.fld mJoin mZero T i j).a, .int .u64 (Tr.fld mJoin mZero T i j).b]) ∧ Cnt c (n + Tr.fldC T i j) w' ∧ Keeps (OnC c) w w'

structure FStM (w V : World) (tb n : Nat) (jv : Value) (root : Option Addr) (c : Option Nat) : Prop where
  keeps : Keeps (OnC c) w V
  cnt : Cnt c n V
  tobj : TObjM V tb jv root
  stay : Stay 94 w V
  res : V.heap[w.heap.size]? = some (.cells #[.int .u64 0, .int .u64 0] 28 (0, 0))

theorem FStM.drew {w V : World} {tb n : Nat} {jv : Value} {root : Option Addr} {c : Option Nat} (h : FStM w V tb n jv root c) : FStM w V.drew tb n jv root c := ⟨h.keeps.drew, h.cnt.drew, h.tobj, h.stay.drew, h.res⟩

theorem FStM.on {w V : World} {tb n : Nat} {jv : Value} {root : Option Addr} {c : Option Nat} {V' : World} {m n0 : Nat} (h : FStM w V tb n jv root c) (h0 : Cnt c n0 w) (kk : Keeps (OnC c) V V') (hm : Cnt c m V') : FStM w V' tb m jv root c :=
  ⟨h.keeps.trans kk, hm, h.tobj.onC h.cnt kk, h.stay.onC h.cnt kk (by decide), blk_keep h.res kk (h0.lt (by omega))⟩

theorem FStM.alloc {w V : World} {tb n : Nat} {jv : Value} {root : Option Addr} {c : Option Nat} (h : FStM w V tb n jv root c) (o : Obj) : FStM w (V.alloc o) tb n jv root c := by
  refine ⟨h.keeps.alloc _, h.cnt.alloc _, ?_, h.stay.alloc _, blk_on h.res (bnew _ _)⟩
  have ht := h.tobj
  unfold TObjM at ht ⊢
  exact blk_on ht (bnew _ _)

theorem fstM {w : World} {tb n : Nat} {jv : Value} {root : Option Addr} {c : Option Nat} (ht : TObjM w tb jv root) (hc : Cnt c n w) : FStM w (w.alloc (.cells #[.int .u64 0, .int .u64 0] 28)) tb n jv root c := by
  refine ⟨(Keeps.refl _ w).alloc _, hc.alloc _, ?_, (Stay.refl _ w).alloc _, heap_alloc_new w _⟩
  unfold TObjM at ht ⊢
  exact blk_on ht (bnew _ _)

/-- The sum's own place beside. -/
structure F2StM (w V : World) (tb n : Nat) (jv : Value) (root : Option Addr) (c : Option Nat) (x : Mp) : Prop where
  st : FStM w V tb n jv root c
  sm : V.heap[w.heap.size + 1]? = some (.cells #[.int .u64 x.a, .int .u64 x.b] 28 (0, 0))

theorem F2StM.drew {w V : World} {tb n : Nat} {jv : Value} {root : Option Addr} {c : Option Nat} {x : Mp} (h : F2StM w V tb n jv root c x) : F2StM w V.drew tb n jv root c x := ⟨h.st.drew, h.sm⟩
theorem F2StM.on {w V : World} {tb n : Nat} {jv : Value} {root : Option Addr} {c : Option Nat} {x : Mp} {V' : World} {m n0 : Nat} (h : F2StM w V tb n jv root c x) (h0 : Cnt c n0 w) (kk : Keeps (OnC c) V V') (hm : Cnt c m V') : F2StM w V' tb m jv root c x :=
  ⟨h.st.on h0 kk hm, blk_keep h.sm kk (h0.lt (by omega))⟩
theorem f2stM {w : World} {tb n : Nat} {jv : Value} {root : Option Addr} {c : Option Nat} (x : Mp) (h : FStM w (w.alloc (.cells #[.int .u64 0, .int .u64 0] 28)) tb n jv root c) : F2StM w ((w.alloc (.cells #[.int .u64 0, .int .u64 0] 28)).alloc (.cells #[.int .u64 x.a, .int .u64 x.b] 28)) tb n jv root c x := by
  refine ⟨h.alloc _, ?_⟩
  have h1 := heap_alloc_new (w.alloc (.cells #[.int .u64 0, .int .u64 0] 28)) (.cells #[.int .u64 x.a, .int .u64 x.b] 28)
  simp only [World.size_alloc] at h1
  exact h1

/-- Two cells of a block set. -/
def set2 (W : World) (g : Nat) (y : Mp) : World := (W.setCell ⟨g, 0, none⟩ (.int .u64 y.a)).setCell ⟨g, 1, none⟩ (.int .u64 y.b)

theorem set2_same {W : World} {g : Nat} {x : Mp} (h : W.heap[g]? = some (.cells #[.int .u64 x.a, .int .u64 x.b] 28 (0, 0))) (y : Mp) : (set2 W g y).heap[g]? = some (.cells #[.int .u64 y.a, .int .u64 y.b] 28 (0, 0)) := by
  have h1 := heap_setCell_same W g 0 _ _ (.int .u64 y.a) h
  exact heap_setCell_same _ g 1 _ _ (.int .u64 y.b) h1
theorem set2_other (W : World) (g k : Nat) (y : Mp) (h : k ≠ g) : (set2 W g y).heap[k]? = W.heap[k]? := by
  unfold set2
  rw [heap_setCell_other _ _ _ _ h, heap_setCell_other _ _ _ _ h]
theorem set2_st {w V : World} {tb n : Nat} {jv : Value} {root : Option Addr} {c : Option Nat} {n0 g : Nat} {x : Value} {x' : Value} (h : FStM w V tb n jv root c) (h0 : Cnt c n0 w) (hg : w.heap.size < g) (hb : V.heap[g]? = some (.cells #[x, x'] 28 (0, 0))) (y : Mp) : FStM w (set2 V g y) tb n jv root c := by
  have h1 := heap_setCell_same V g 0 _ _ (.int .u64 y.a) hb
  refine ⟨(h.keeps.setCell (fun e => by dsimp only at e; omega) _).setCell (fun e => by dsimp only at e; omega) _, (h.cnt.setCell _ (h0.lt (by dsimp only; omega))).setCell _ (h0.lt (by dsimp only; omega)), ?_, (h.stay.setCell _ (fun cs e => by dsimp only at e; rw [hb] at e; simp at e)).setCell _ (fun cs e => by dsimp only at e; rw [h1] at e; simp at e), ?_⟩
  · have ht := h.tobj
    unfold TObjM at ht ⊢
    rw [set2_other _ _ _ _ (fun e => by rw [e, hb] at ht; simp at ht)]
    exact ht
  · rw [set2_other _ _ _ _ (by omega)]; exact h.res
theorem F2StM.set {w V : World} {tb n : Nat} {jv : Value} {root : Option Addr} {c : Option Nat} {x : Mp} {n0 : Nat} (h : F2StM w V tb n jv root c x) (h0 : Cnt c n0 w) (y : Mp) : F2StM w (set2 V (w.heap.size + 1) y) tb n jv root c y :=
  ⟨set2_st h.st h0 (by omega) h.sm y, set2_same h.sm y⟩
theorem set2_end {w V : World} {tb n : Nat} {jv : Value} {root : Option Addr} {c : Option Nat} {n0 : Nat} (h : FStM w V tb n jv root c) (h0 : Cnt c n0 w) (y : Mp) : Cnt c n (set2 V w.heap.size y) ∧ Keeps (OnC c) w (set2 V w.heap.size y) :=
  ⟨(h.cnt.setCell _ (h0.lt (Nat.le_refl _))).setCell _ (h0.lt (Nat.le_refl _)), (h.keeps.setCell (fun e => by dsimp only at e; omega) _).setCell (fun e => by dsimp only at e; omega) _⟩

end Go.Proofs.Ytnlmlhoddchgbaa
namespace Go.Proofs.Ytnlmlhoddchgbaa
open Go.RowKit
set_option linter.unusedVariables false

set_option maxHeartbeats 3200000 in
set_option maxRecDepth 100000 in
theorem foldAM {jv : Value} {c : Option Nat} (HB : BothOkM jv c) {w : World} {tb n : Nat} {root : Option Addr} {l r : Tr Int Mp} {k : ByteArray} {v : Int} {s q : Mp} {b : Nat} {lp rp : Option Addr} {C H I J lc : Int} (ht : TObjM w tb jv root) (hc : Cnt c n w) (hb : w.heap[b]? = some (.cells #[.string k, .int .i64 v, .int .u64 s.a, .int .u64 s.b, .pointer lp, .pointer rp, .int .i64 C, .int .i64 H, .int .u64 q.a, .int .u64 q.b] 94 (0, 0))) (hl : IsTM w lp l) (hr : IsTM w rp r) (hlc : (l.cnt : Int) = lc) (hz : (I == 0) = true) (hq : (J == C) = true) : Calls Try.prog 53 #[.pointer (some ⟨tb, 0, none⟩), .pointer (some ⟨b, 0, none⟩), .int .i64 I, .int .i64 J] w fun e w' => e = .returned (.agg #[.int .u64 q.a, .int .u64 q.b]) ∧ Cnt c (n + 0) w' ∧ Keeps (OnC c) w w' := by
  have F := aside (fstM ht hc)
  have HC := aside hc
  have HN := aside hb
  have hn := nodeM (F.out.stay _ _ hb)
  obtain ⟨-, -, -, -, -, -, n6, -, n8, n9⟩ := hn
  have CR := aside (fun (W : World) (h : Stay 94 w W) => hlc ▸ rowsM (hl.on h))
  clear ht hc hb hl hr hlc CR
  go_enter Try.func53, Try.ntmps53
  go_wp2
  exact bodyPost_ret (v := .agg #[.int .u64 q.a, .int .u64 q.b]) (by simp [results, Try.results53, go_sem]) rfl ⟨rfl, (HC.out.alloc _), ((Keeps.refl _ w).alloc _)⟩

set_option maxHeartbeats 3200000 in
set_option maxRecDepth 100000 in
theorem foldBM {jv : Value} {c : Option Nat} (HB : BothOkM jv c) {w : World} {tb n : Nat} {root : Option Addr} {l r : Tr Int Mp} {k : ByteArray} {v : Int} {s q : Mp} {b : Nat} {lp rp : Option Addr} {C H I J lc : Int} (ht : TObjM w tb jv root) (hc : Cnt c n w) (hb : w.heap[b]? = some (.cells #[.string k, .int .i64 v, .int .u64 s.a, .int .u64 s.b, .pointer lp, .pointer rp, .int .i64 C, .int .i64 H, .int .u64 q.a, .int .u64 q.b] 94 (0, 0))) (hl : IsTM w lp l) (hr : IsTM w rp r) (hlc : (l.cnt : Int) = lc) {y : Mp} {cst : Nat} (CF : ∀ W : World, TObjM W tb jv root → Cnt c n W → Stay 94 w W → Calls Try.prog 53 #[.pointer (some ⟨tb, 0, none⟩), .pointer lp, .int .i64 I, .int .i64 J] W fun e w' => e = .returned (.agg #[.int .u64 y.a, .int .u64 y.b]) ∧ Cnt c (n + cst) w' ∧ Keeps (OnC c) W w') (hz : (I == 0) = true → (J == C) = false) (h1 : J ≤ lc) : Calls Try.prog 53 #[.pointer (some ⟨tb, 0, none⟩), .pointer (some ⟨b, 0, none⟩), .int .i64 I, .int .i64 J] w fun e w' => e = .returned (.agg #[.int .u64 y.a, .int .u64 y.b]) ∧ Cnt c (n + cst) w' ∧ Keeps (OnC c) w w' := by
  have F := aside (fstM ht hc)
  have HC := aside hc
  have HN := aside hb
  have hn := nodeM (F.out.stay _ _ hb)
  obtain ⟨-, -, -, -, n4, n5, n6, -, -, -⟩ := hn
  have CR := aside (fun (W : World) (h : Stay 94 w W) => hlc ▸ rowsM (hl.on h))
  have CF' := aside CF
  clear ht hc hb hl hr hlc CF
  cases hz0 : (I == 0)
  · clear hz
    go_enter Try.func53, Try.ntmps53
    go_wp2_with fail
    refine (CR.out _ F.out.stay).mono ?_
    rintro e w1 ⟨rfl, rfl⟩
    go_wp2_with fail
    refine (CF'.out _ F.out.tobj F.out.cnt F.out.stay).mono ?_
    rintro e w1 ⟨rfl, bc, kk⟩
    have G := aside (F.out.on HC.out kk bc)
    obtain ⟨s0, s1, z0, z1⟩ := duo G.out.res
    have E := aside (set2_end G.out HC.out y)
    have r0 := duo (set2_same (x := ⟨0, 0⟩) G.out.res y)
    unfold set2 at E r0
    clear bc kk CF' CR n6 n4 n5 F
    go_wp2
    exact bodyPost_ret (v := .agg #[.int .u64 y.a, .int .u64 y.b]) (by simp [results, Try.results53, go_sem, s0, s1]) rfl ⟨rfl, E.out.1, E.out.2⟩
  · have hz1 := hz hz0
    clear hz
    go_enter Try.func53, Try.ntmps53
    go_wp2_with fail
    refine (CR.out _ F.out.stay).mono ?_
    rintro e w1 ⟨rfl, rfl⟩
    go_wp2_with fail
    refine (CF'.out _ F.out.tobj F.out.cnt F.out.stay).mono ?_
    rintro e w1 ⟨rfl, bc, kk⟩
    have G := aside (F.out.on HC.out kk bc)
    obtain ⟨s0, s1, z0, z1⟩ := duo G.out.res
    have E := aside (set2_end G.out HC.out y)
    have r0 := duo (set2_same (x := ⟨0, 0⟩) G.out.res y)
    unfold set2 at E r0
    clear bc kk CF' CR n6 n4 n5 F
    go_wp2
    exact bodyPost_ret (v := .agg #[.int .u64 y.a, .int .u64 y.b]) (by simp [results, Try.results53, go_sem, s0, s1]) rfl ⟨rfl, E.out.1, E.out.2⟩

set_option maxHeartbeats 3200000 in
set_option maxRecDepth 100000 in
theorem foldCM {jv : Value} {c : Option Nat} (HB : BothOkM jv c) {w : World} {tb n : Nat} {root : Option Addr} {l r : Tr Int Mp} {k : ByteArray} {v : Int} {s q : Mp} {b : Nat} {lp rp : Option Addr} {C H I J lc : Int} (ht : TObjM w tb jv root) (hc : Cnt c n w) (hb : w.heap[b]? = some (.cells #[.string k, .int .i64 v, .int .u64 s.a, .int .u64 s.b, .pointer lp, .pointer rp, .int .i64 C, .int .i64 H, .int .u64 q.a, .int .u64 q.b] 94 (0, 0))) (hl : IsTM w lp l) (hr : IsTM w rp r) (hlc : (l.cnt : Int) = lc) {y : Mp} {cst : Nat} (CF : ∀ W : World, TObjM W tb jv root → Cnt c n W → Stay 94 w W → Calls Try.prog 53 #[.pointer (some ⟨tb, 0, none⟩), .pointer rp, .int .i64 (I - lc - 1), .int .i64 (J - lc - 1)] W fun e w' => e = .returned (.agg #[.int .u64 y.a, .int .u64 y.b]) ∧ Cnt c (n + cst) w' ∧ Keeps (OnC c) W w') (hz0 : (I == 0) = false) (h1 : ¬ J ≤ lc) (h2 : lc < I) (w1 : IntKind.i64.wrap (I - lc) = I - lc) (w2 : IntKind.i64.wrap (I - lc - 1) = I - lc - 1) (w3 : IntKind.i64.wrap (J - lc) = J - lc) (w4 : IntKind.i64.wrap (J - lc - 1) = J - lc - 1) : Calls Try.prog 53 #[.pointer (some ⟨tb, 0, none⟩), .pointer (some ⟨b, 0, none⟩), .int .i64 I, .int .i64 J] w fun e w' => e = .returned (.agg #[.int .u64 y.a, .int .u64 y.b]) ∧ Cnt c (n + cst) w' ∧ Keeps (OnC c) w w' := by
  have F := aside (fstM ht hc)
  have HC := aside hc
  have HN := aside hb
  have hn := nodeM (F.out.stay _ _ hb)
  obtain ⟨-, -, -, -, n4, n5, n6, -, -, -⟩ := hn
  have CR := aside (fun (W : World) (h : Stay 94 w W) => hlc ▸ rowsM (hl.on h))
  have CF' := aside CF
  clear ht hc hb hl hr hlc CF
  go_enter Try.func53, Try.ntmps53
  go_wp2_with fail
  refine (CR.out _ F.out.stay).mono ?_
  rintro e w1 ⟨rfl, rfl⟩
  go_wp2_with fail
  refine (CF'.out _ F.out.tobj F.out.cnt F.out.stay).mono ?_
  rintro e w1 ⟨rfl, bc, kk⟩
  have G := aside (F.out.on HC.out kk bc)
  obtain ⟨s0, s1, z0, z1⟩ := duo G.out.res
  have E := aside (set2_end G.out HC.out y)
  have r0 := duo (set2_same (x := ⟨0, 0⟩) G.out.res y)
  unfold set2 at E r0
  clear bc kk CF' CR n6 n4 n5 F
  go_wp2
  exact bodyPost_ret (v := .agg #[.int .u64 y.a, .int .u64 y.b]) (by simp [results, Try.results53, go_sem, s0, s1]) rfl ⟨rfl, E.out.1, E.out.2⟩

end Go.Proofs.Ytnlmlhoddchgbaa
namespace Go.Proofs.Ytnlmlhoddchgbaa
open Go.RowKit
set_option linter.unusedVariables false

set_option maxHeartbeats 6400000 in
set_option maxRecDepth 100000 in
theorem foldD00M {jv : Value} {c : Option Nat} (HB : BothOkM jv c) {w : World} {tb n : Nat} {root : Option Addr} {l : Tr Int Mp} {k : ByteArray} {v : Int} {s q : Mp} {b : Nat} {lp rp : Option Addr} {C H I J lc : Int} (ht : TObjM w tb jv root) (hc : Cnt c n w) (hb : w.heap[b]? = some (.cells #[.string k, .int .i64 v, .int .u64 s.a, .int .u64 s.b, .pointer lp, .pointer rp, .int .i64 C, .int .i64 H, .int .u64 q.a, .int .u64 q.b] 94 (0, 0))) (hl : IsTM w lp l) (hlc : (l.cnt : Int) = lc) (hz : (I == 0) = true → (J == C) = false) (h1 : ¬ J ≤ lc) (h2 : ¬ lc < I) (h3 : ¬ I < lc) (w5 : IntKind.i64.wrap (lc + 1) = lc + 1) (h4 : ¬ lc + 1 < J) : Calls Try.prog 53 #[.pointer (some ⟨tb, 0, none⟩), .pointer (some ⟨b, 0, none⟩), .int .i64 I, .int .i64 J] w fun e w' => e = .returned (.agg #[.int .u64 s.a, .int .u64 s.b]) ∧ Cnt c n w' ∧ Keeps (OnC c) w w' := by
  have F := aside (fstM ht hc)
  have HC := aside hc
  have HN := aside hb
  have hn := nodeM (F.out.stay _ _ hb)
  obtain ⟨-, -, n2, n3, n4, n5, n6, -, -, -⟩ := hn
  have CR := aside (fun (W : World) (h : Stay 94 w W) => hlc ▸ rowsM (hl.on h))
  clear ht hc hb hl hlc
  cases hz0 : (I == 0)
  · clear hz
    go_enter Try.func53, Try.ntmps53
    go_wp2_with fail
    refine (CR.out _ F.out.stay).mono ?_
    rintro e w1 ⟨rfl, rfl⟩
    go_wp2
    exact bodyPost_ret (v := .agg #[.int .u64 s.a, .int .u64 s.b]) (by simp [results, Try.results53, go_sem]) rfl ⟨rfl, (HC.out.alloc _).alloc _, ((Keeps.refl _ w).alloc _).alloc _⟩
  · have hz1 := hz hz0
    clear hz
    go_enter Try.func53, Try.ntmps53
    go_wp2_with fail
    refine (CR.out _ F.out.stay).mono ?_
    rintro e w1 ⟨rfl, rfl⟩
    go_wp2
    exact bodyPost_ret (v := .agg #[.int .u64 s.a, .int .u64 s.b]) (by simp [results, Try.results53, go_sem]) rfl ⟨rfl, (HC.out.alloc _).alloc _, ((Keeps.refl _ w).alloc _).alloc _⟩

end Go.Proofs.Ytnlmlhoddchgbaa
namespace Go.Proofs.Ytnlmlhoddchgbaa
open Go.RowKit
set_option linter.unusedVariables false

set_option maxHeartbeats 6400000 in
set_option maxRecDepth 100000 in
theorem foldD01M {jv : Value} {c : Option Nat} (HB : BothOkM jv c) {w : World} {tb n : Nat} {root : Option Addr} {l : Tr Int Mp} {k : ByteArray} {v : Int} {s q : Mp} {b : Nat} {lp rp : Option Addr} {C H I J lc : Int} (ht : TObjM w tb jv root) (hc : Cnt c n w) (hb : w.heap[b]? = some (.cells #[.string k, .int .i64 v, .int .u64 s.a, .int .u64 s.b, .pointer lp, .pointer rp, .int .i64 C, .int .i64 H, .int .u64 q.a, .int .u64 q.b] 94 (0, 0))) (hl : IsTM w lp l) (hlc : (l.cnt : Int) = lc) {yr : Mp} {cr : Nat} (CFR : ∀ (W : World) (m : Nat), TObjM W tb jv root → Cnt c m W → Stay 94 w W → Calls Try.prog 53 #[.pointer (some ⟨tb, 0, none⟩), .pointer rp, .int .i64 0, .int .i64 (J - lc - 1)] W fun e w' => e = .returned (.agg #[.int .u64 yr.a, .int .u64 yr.b]) ∧ Cnt c (m + cr) w' ∧ Keeps (OnC c) W w') (hzr : mSz s + mSz yr ≤ 4611686018427387904) (w3 : IntKind.i64.wrap (J - lc) = J - lc) (w4 : IntKind.i64.wrap (J - lc - 1) = J - lc - 1) (hz : (I == 0) = true → (J == C) = false) (h1 : ¬ J ≤ lc) (h2 : ¬ lc < I) (h3 : ¬ I < lc) (w5 : IntKind.i64.wrap (lc + 1) = lc + 1) (h4 : lc + 1 < J) : Calls Try.prog 53 #[.pointer (some ⟨tb, 0, none⟩), .pointer (some ⟨b, 0, none⟩), .int .i64 I, .int .i64 J] w fun e w' => e = .returned (.agg #[.int .u64 (mJoin s yr).a, .int .u64 (mJoin s yr).b]) ∧ Cnt c (n + cr + 1) w' ∧ Keeps (OnC c) w w' := by
  have F := aside (fstM ht hc)
  have HC := aside hc
  have HN := aside hb
  have hn := nodeM (F.out.stay _ _ hb)
  obtain ⟨-, -, n2, n3, n4, n5, n6, -, -, -⟩ := hn
  have CR := aside (fun (W : World) (h : Stay 94 w W) => hlc ▸ rowsM (hl.on h))
  have CR' := aside CFR
  clear CFR
  clear ht hc hb hl hlc
  cases hz0 : (I == 0)
  · clear hz
    go_enter Try.func53, Try.ntmps53
    go_wp2_with fail
    refine (CR.out _ F.out.stay).mono ?_
    rintro e w1 ⟨rfl, rfl⟩
    have G := aside (f2stM s F.out)
    go_wp2_with fail
    clear n6 n4 n5 n2 n3 CR
    clear F
    generalize (w.alloc (.cells #[.int .u64 0, .int .u64 0] 28)).alloc (.cells #[.int .u64 s.a, .int .u64 s.b] 28) = V at *
    refine wp_region_held_drew (S := fun X => X.cell? ⟨b, 5, none⟩ = some (.pointer rp)) (by kernel_rfl) (nodePrM (G.out.drew.st.stay _ _ HN.out)) (fun hHeld => ?_)
    refine wpAnyH_take (i := 0) (v := ?_) rfl (by kernel_rfl) (by kernel_rfl) (by kernel_rfl) (fun _ _ _ h => h) (Or.inl ⟨by rfl, ?_⟩) (by assumption) ?_
    rotate_left
    · intro w hSw
      go_simp
      try with_reducible rfl
    simp only [Act.put, List.getElem_toArray, List.getElem_cons_zero, List.setIfInBounds_toArray, List.set_cons_zero, List.set_cons_succ]
    refine wpAnyH_take (i := 2) (v := ?_) rfl (by kernel_rfl) (by kernel_rfl) (by kernel_rfl) (fun _ _ _ h => h) (Or.inl ⟨by rfl, ?_⟩) (by assumption) ?_
    rotate_left
    · intro w hSw
      go_simp
      try with_reducible rfl
    simp only [Act.put, List.getElem_toArray, List.getElem_cons_zero, List.getElem_cons_succ, List.setIfInBounds_toArray, List.set_cons_zero, List.set_cons_succ]
    refine wpAnyH_take (i := 3) (v := ?_) rfl (by kernel_rfl) (by kernel_rfl) (by kernel_rfl) (fun _ _ _ h => h) (Or.inl ⟨by rfl, ?_⟩) (by assumption) ?_
    rotate_left
    · intro w hSw
      go_simp
      try with_reducible rfl
    simp only [Act.put, List.getElem_toArray, List.getElem_cons_zero, List.getElem_cons_succ, List.setIfInBounds_toArray, List.set_cons_zero, List.set_cons_succ]
    refine wpAnyH_take (i := 4) (v := ?_) rfl (by kernel_rfl) (by kernel_rfl) (by kernel_rfl) (fun _ _ _ h => h) (Or.inl ⟨by rfl, ?_⟩) (by assumption) ?_
    rotate_left
    · intro w hSw
      go_simp
      try with_reducible rfl
    simp only [Act.put, List.getElem_toArray, List.getElem_cons_zero, List.getElem_cons_succ, List.setIfInBounds_toArray, List.set_cons_zero, List.set_cons_succ]
    refine wpAnyH_take (i := 5) (v := ?_) rfl (by kernel_rfl) (by kernel_rfl) (by kernel_rfl) (fun _ _ _ h => h) (Or.inl ⟨by rfl, ?_⟩) (by assumption) ?_
    rotate_left
    · intro w hSw
      go_simp
      try with_reducible rfl
    simp only [Act.put, List.getElem_toArray, List.getElem_cons_zero, List.getElem_cons_succ, List.setIfInBounds_toArray, List.set_cons_zero, List.set_cons_succ]
    refine wpAnyH_take (i := 6) (v := ?_) rfl (by kernel_rfl) (by kernel_rfl) (by kernel_rfl) (fun _ _ _ h => h) (Or.inl ⟨by rfl, ?_⟩) (by assumption) ?_
    rotate_left
    · intro w hSw
      go_simp
      try with_reducible rfl
    simp only [Act.put, List.getElem_toArray, List.getElem_cons_zero, List.getElem_cons_succ, List.setIfInBounds_toArray, List.set_cons_zero, List.set_cons_succ]
    refine wpAnyH_take (i := 7) (v := ?_) rfl (by kernel_rfl) (by kernel_rfl) (by kernel_rfl) (fun _ _ _ h => h) (Or.inl ⟨by rfl, ?_⟩) (by assumption) ?_
    rotate_left
    · intro w hSw
      go_simp
      try with_reducible rfl
    simp only [Act.put, List.getElem_toArray, List.getElem_cons_zero, List.getElem_cons_succ, List.setIfInBounds_toArray, List.set_cons_zero, List.set_cons_succ]
    refine wpAnyH_take (i := 8) (v := ?_) rfl (by kernel_rfl) (by kernel_rfl) (by kernel_rfl) (fun _ _ _ h => h) (Or.inl ⟨by rfl, ?_⟩) (by assumption) ?_
    rotate_left
    · intro w hSw
      go_simp
      try with_reducible rfl
    simp only [Act.put, List.getElem_toArray, List.getElem_cons_zero, List.getElem_cons_succ, List.setIfInBounds_toArray, List.set_cons_zero, List.set_cons_succ]
    refine wpAnyH_take (i := 9) (v := ?_) rfl (by kernel_rfl) (by kernel_rfl) (by kernel_rfl) (fun _ _ _ h => h) (Or.inl ⟨by rfl, ?_⟩) (by assumption) ?_
    rotate_left
    · intro w hSw
      go_simp
      try with_reducible rfl
    simp only [Act.put, List.getElem_toArray, List.getElem_cons_zero, List.getElem_cons_succ, List.setIfInBounds_toArray, List.set_cons_zero, List.set_cons_succ]
    refine wpAnyH_take (i := 10) (v := ?_) rfl (by kernel_rfl) (by kernel_rfl) (by kernel_rfl) (fun _ _ _ h => h) (Or.inl ⟨by rfl, ?_⟩) (by assumption) ?_
    rotate_left
    · intro w hSw
      go_simp
      try with_reducible rfl
    simp only [Act.put, List.getElem_toArray, List.getElem_cons_zero, List.getElem_cons_succ, List.setIfInBounds_toArray, List.set_cons_zero, List.set_cons_succ]
    refine wpAnyH_ready (rs := [1, 11]) (by kernel_rfl) (by simp) ?_
    refine AllReadyH.cons rfl (fun K hK => ?_) (AllReadyH.cons rfl (fun K hK => ?_) AllReadyH.nil)
    · obtain ⟨s0, s1, z0, z1⟩ := duo G.out.drew.sm
      go_simp
      refine hK.out _ _ hHeld (fun hHeld => ?_)
      clear hK K s0 s1 z0 z1
      refine wpAnyH_ready (rs := [11]) (by kernel_rfl) (by simp) ?_
      refine AllReadyH.cons rfl (fun K hK => ?_) AllReadyH.nil
      go_simp
      refine (CR'.out _ _ G.out.drew.st.tobj G.out.drew.st.cnt G.out.drew.st.stay).mono ?_
      rintro e w9 ⟨rfl, bc, kk⟩
      refine hK.out _ _ (nodePrM ((G.out.drew.on HC.out kk bc).st.stay _ _ HN.out)) (fun hHeld => ?_)
      clear hK K 
      have Gx := aside (G.out.drew.on HC.out kk bc)
      clear bc kk
      refine wpAnyH_ready (rs := [12]) (by kernel_rfl) (by simp) ?_
      refine AllReadyH.cons rfl (fun K hK => ?_) AllReadyH.nil
      go_simp
      refine (HB _ tb (n + cr) root s yr Gx.out.st.tobj Gx.out.st.cnt hzr).mono ?_
      rintro e w9 ⟨rfl, bc, kk⟩
      refine hK.out _ _ (nodePrM ((Gx.out.on HC.out kk bc).st.stay _ _ HN.out)) (fun hHeld => ?_)
      clear hK K 
      have Gxb := aside (Gx.out.on HC.out kk bc)
      obtain ⟨s0, s1, z0, z1⟩ := duo Gxb.out.sm
      clear bc kk
      refine wpAnyH_ready (rs := [13]) (by kernel_rfl) (by simp) ?_
      refine AllReadyH.cons rfl (fun K hK => ?_) AllReadyH.nil
      go_simp
      refine hK.out _ _ (nodePrM ((Gxb.out.set HC.out (mJoin s yr)).st.stay _ _ HN.out)) (fun hHeld => ?_)
      clear hK K 
      have Gxc := aside (Gxb.out.set HC.out (mJoin s yr))
      clear hHeld s0 s1 z0 z1 Gxb
      unfold set2 at Gxc
      refine wpAnyH_done (by kernel_rfl) ?_ _
      generalize (w9.setCell ⟨w.heap.size + 1, 0, none⟩ (.int .u64 (mJoin s yr).a)).setCell ⟨w.heap.size + 1, 1, none⟩ (.int .u64 (mJoin s yr).b) = V2 at *
      obtain ⟨s0, s1, z0, z1⟩ := duo Gxc.out.sm
      obtain ⟨t0, t1, y0, y1⟩ := duo Gxc.out.st.res
      have E := aside (set2_end Gxc.out.st HC.out (mJoin s yr))
      unfold set2 at E
      go_wp2
      exact bodyPost_ret (v := .agg #[.int .u64 (mJoin s yr).a, .int .u64 (mJoin s yr).b]) (by simp [results, Try.results53, go_sem, t0, t1]) rfl ⟨rfl, E.out.1, E.out.2⟩
    · go_simp
      refine (CR'.out _ _ G.out.drew.st.tobj G.out.drew.st.cnt G.out.drew.st.stay).mono ?_
      rintro e w9 ⟨rfl, bc, kk⟩
      refine hK.out _ _ (nodePrM ((G.out.drew.on HC.out kk bc).st.stay _ _ HN.out)) (fun hHeld => ?_)
      clear hK K
      have Gx := aside (G.out.drew.on HC.out kk bc)
      clear bc kk
      obtain ⟨s0, s1, z0, z1⟩ := duo Gx.out.sm
      refine wpAnyH_ready (rs := [1]) (by kernel_rfl) (by simp) ?_
      refine AllReadyH.cons rfl (fun K hK => ?_) AllReadyH.nil
      go_simp
      refine hK.out _ _ (hHeld) (fun hHeld => ?_)
      clear hK K 
      clear s0 s1 z0 z1
      refine wpAnyH_ready (rs := [12]) (by kernel_rfl) (by simp) ?_
      refine AllReadyH.cons rfl (fun K hK => ?_) AllReadyH.nil
      go_simp
      refine (HB _ tb (n + cr) root s yr Gx.out.st.tobj Gx.out.st.cnt hzr).mono ?_
      rintro e w9 ⟨rfl, bc, kk⟩
      refine hK.out _ _ (nodePrM ((Gx.out.on HC.out kk bc).st.stay _ _ HN.out)) (fun hHeld => ?_)
      clear hK K 
      have Gxb := aside (Gx.out.on HC.out kk bc)
      obtain ⟨s0, s1, z0, z1⟩ := duo Gxb.out.sm
      clear bc kk
      refine wpAnyH_ready (rs := [13]) (by kernel_rfl) (by simp) ?_
      refine AllReadyH.cons rfl (fun K hK => ?_) AllReadyH.nil
      go_simp
      refine hK.out _ _ (nodePrM ((Gxb.out.set HC.out (mJoin s yr)).st.stay _ _ HN.out)) (fun hHeld => ?_)
      clear hK K 
      have Gxc := aside (Gxb.out.set HC.out (mJoin s yr))
      clear hHeld s0 s1 z0 z1 Gxb
      unfold set2 at Gxc
      refine wpAnyH_done (by kernel_rfl) ?_ _
      generalize (w9.setCell ⟨w.heap.size + 1, 0, none⟩ (.int .u64 (mJoin s yr).a)).setCell ⟨w.heap.size + 1, 1, none⟩ (.int .u64 (mJoin s yr).b) = V2 at *
      obtain ⟨s0, s1, z0, z1⟩ := duo Gxc.out.sm
      obtain ⟨t0, t1, y0, y1⟩ := duo Gxc.out.st.res
      have E := aside (set2_end Gxc.out.st HC.out (mJoin s yr))
      unfold set2 at E
      go_wp2
      exact bodyPost_ret (v := .agg #[.int .u64 (mJoin s yr).a, .int .u64 (mJoin s yr).b]) (by simp [results, Try.results53, go_sem, t0, t1]) rfl ⟨rfl, E.out.1, E.out.2⟩
  · have hz1 := hz hz0
    clear hz
    go_enter Try.func53, Try.ntmps53
    go_wp2_with fail
    refine (CR.out _ F.out.stay).mono ?_
    rintro e w1 ⟨rfl, rfl⟩
    have G := aside (f2stM s F.out)
    go_wp2_with fail
    clear n6 n4 n5 n2 n3 CR
    clear F
    generalize (w.alloc (.cells #[.int .u64 0, .int .u64 0] 28)).alloc (.cells #[.int .u64 s.a, .int .u64 s.b] 28) = V at *
    refine wp_region_held_drew (S := fun X => X.cell? ⟨b, 5, none⟩ = some (.pointer rp)) (by kernel_rfl) (nodePrM (G.out.drew.st.stay _ _ HN.out)) (fun hHeld => ?_)
    refine wpAnyH_take (i := 0) (v := ?_) rfl (by kernel_rfl) (by kernel_rfl) (by kernel_rfl) (fun _ _ _ h => h) (Or.inl ⟨by rfl, ?_⟩) (by assumption) ?_
    rotate_left
    · intro w hSw
      go_simp
      try with_reducible rfl
    simp only [Act.put, List.getElem_toArray, List.getElem_cons_zero, List.setIfInBounds_toArray, List.set_cons_zero, List.set_cons_succ]
    refine wpAnyH_take (i := 2) (v := ?_) rfl (by kernel_rfl) (by kernel_rfl) (by kernel_rfl) (fun _ _ _ h => h) (Or.inl ⟨by rfl, ?_⟩) (by assumption) ?_
    rotate_left
    · intro w hSw
      go_simp
      try with_reducible rfl
    simp only [Act.put, List.getElem_toArray, List.getElem_cons_zero, List.getElem_cons_succ, List.setIfInBounds_toArray, List.set_cons_zero, List.set_cons_succ]
    refine wpAnyH_take (i := 3) (v := ?_) rfl (by kernel_rfl) (by kernel_rfl) (by kernel_rfl) (fun _ _ _ h => h) (Or.inl ⟨by rfl, ?_⟩) (by assumption) ?_
    rotate_left
    · intro w hSw
      go_simp
      try with_reducible rfl
    simp only [Act.put, List.getElem_toArray, List.getElem_cons_zero, List.getElem_cons_succ, List.setIfInBounds_toArray, List.set_cons_zero, List.set_cons_succ]
    refine wpAnyH_take (i := 4) (v := ?_) rfl (by kernel_rfl) (by kernel_rfl) (by kernel_rfl) (fun _ _ _ h => h) (Or.inl ⟨by rfl, ?_⟩) (by assumption) ?_
    rotate_left
    · intro w hSw
      go_simp
      try with_reducible rfl
    simp only [Act.put, List.getElem_toArray, List.getElem_cons_zero, List.getElem_cons_succ, List.setIfInBounds_toArray, List.set_cons_zero, List.set_cons_succ]
    refine wpAnyH_take (i := 5) (v := ?_) rfl (by kernel_rfl) (by kernel_rfl) (by kernel_rfl) (fun _ _ _ h => h) (Or.inl ⟨by rfl, ?_⟩) (by assumption) ?_
    rotate_left
    · intro w hSw
      go_simp
      try with_reducible rfl
    simp only [Act.put, List.getElem_toArray, List.getElem_cons_zero, List.getElem_cons_succ, List.setIfInBounds_toArray, List.set_cons_zero, List.set_cons_succ]
    refine wpAnyH_take (i := 6) (v := ?_) rfl (by kernel_rfl) (by kernel_rfl) (by kernel_rfl) (fun _ _ _ h => h) (Or.inl ⟨by rfl, ?_⟩) (by assumption) ?_
    rotate_left
    · intro w hSw
      go_simp
      try with_reducible rfl
    simp only [Act.put, List.getElem_toArray, List.getElem_cons_zero, List.getElem_cons_succ, List.setIfInBounds_toArray, List.set_cons_zero, List.set_cons_succ]
    refine wpAnyH_take (i := 7) (v := ?_) rfl (by kernel_rfl) (by kernel_rfl) (by kernel_rfl) (fun _ _ _ h => h) (Or.inl ⟨by rfl, ?_⟩) (by assumption) ?_
    rotate_left
    · intro w hSw
      go_simp
      try with_reducible rfl
    simp only [Act.put, List.getElem_toArray, List.getElem_cons_zero, List.getElem_cons_succ, List.setIfInBounds_toArray, List.set_cons_zero, List.set_cons_succ]
    refine wpAnyH_take (i := 8) (v := ?_) rfl (by kernel_rfl) (by kernel_rfl) (by kernel_rfl) (fun _ _ _ h => h) (Or.inl ⟨by rfl, ?_⟩) (by assumption) ?_
    rotate_left
    · intro w hSw
      go_simp
      try with_reducible rfl
    simp only [Act.put, List.getElem_toArray, List.getElem_cons_zero, List.getElem_cons_succ, List.setIfInBounds_toArray, List.set_cons_zero, List.set_cons_succ]
    refine wpAnyH_take (i := 9) (v := ?_) rfl (by kernel_rfl) (by kernel_rfl) (by kernel_rfl) (fun _ _ _ h => h) (Or.inl ⟨by rfl, ?_⟩) (by assumption) ?_
    rotate_left
    · intro w hSw
      go_simp
      try with_reducible rfl
    simp only [Act.put, List.getElem_toArray, List.getElem_cons_zero, List.getElem_cons_succ, List.setIfInBounds_toArray, List.set_cons_zero, List.set_cons_succ]
    refine wpAnyH_take (i := 10) (v := ?_) rfl (by kernel_rfl) (by kernel_rfl) (by kernel_rfl) (fun _ _ _ h => h) (Or.inl ⟨by rfl, ?_⟩) (by assumption) ?_
    rotate_left
    · intro w hSw
      go_simp
      try with_reducible rfl
    simp only [Act.put, List.getElem_toArray, List.getElem_cons_zero, List.getElem_cons_succ, List.setIfInBounds_toArray, List.set_cons_zero, List.set_cons_succ]
    refine wpAnyH_ready (rs := [1, 11]) (by kernel_rfl) (by simp) ?_
    refine AllReadyH.cons rfl (fun K hK => ?_) (AllReadyH.cons rfl (fun K hK => ?_) AllReadyH.nil)
    · obtain ⟨s0, s1, z0, z1⟩ := duo G.out.drew.sm
      go_simp
      refine hK.out _ _ hHeld (fun hHeld => ?_)
      clear hK K s0 s1 z0 z1
      refine wpAnyH_ready (rs := [11]) (by kernel_rfl) (by simp) ?_
      refine AllReadyH.cons rfl (fun K hK => ?_) AllReadyH.nil
      go_simp
      refine (CR'.out _ _ G.out.drew.st.tobj G.out.drew.st.cnt G.out.drew.st.stay).mono ?_
      rintro e w9 ⟨rfl, bc, kk⟩
      refine hK.out _ _ (nodePrM ((G.out.drew.on HC.out kk bc).st.stay _ _ HN.out)) (fun hHeld => ?_)
      clear hK K 
      have Gx := aside (G.out.drew.on HC.out kk bc)
      clear bc kk
      refine wpAnyH_ready (rs := [12]) (by kernel_rfl) (by simp) ?_
      refine AllReadyH.cons rfl (fun K hK => ?_) AllReadyH.nil
      go_simp
      refine (HB _ tb (n + cr) root s yr Gx.out.st.tobj Gx.out.st.cnt hzr).mono ?_
      rintro e w9 ⟨rfl, bc, kk⟩
      refine hK.out _ _ (nodePrM ((Gx.out.on HC.out kk bc).st.stay _ _ HN.out)) (fun hHeld => ?_)
      clear hK K 
      have Gxb := aside (Gx.out.on HC.out kk bc)
      obtain ⟨s0, s1, z0, z1⟩ := duo Gxb.out.sm
      clear bc kk
      refine wpAnyH_ready (rs := [13]) (by kernel_rfl) (by simp) ?_
      refine AllReadyH.cons rfl (fun K hK => ?_) AllReadyH.nil
      go_simp
      refine hK.out _ _ (nodePrM ((Gxb.out.set HC.out (mJoin s yr)).st.stay _ _ HN.out)) (fun hHeld => ?_)
      clear hK K 
      have Gxc := aside (Gxb.out.set HC.out (mJoin s yr))
      clear hHeld s0 s1 z0 z1 Gxb
      unfold set2 at Gxc
      refine wpAnyH_done (by kernel_rfl) ?_ _
      generalize (w9.setCell ⟨w.heap.size + 1, 0, none⟩ (.int .u64 (mJoin s yr).a)).setCell ⟨w.heap.size + 1, 1, none⟩ (.int .u64 (mJoin s yr).b) = V2 at *
      obtain ⟨s0, s1, z0, z1⟩ := duo Gxc.out.sm
      obtain ⟨t0, t1, y0, y1⟩ := duo Gxc.out.st.res
      have E := aside (set2_end Gxc.out.st HC.out (mJoin s yr))
      unfold set2 at E
      go_wp2
      exact bodyPost_ret (v := .agg #[.int .u64 (mJoin s yr).a, .int .u64 (mJoin s yr).b]) (by simp [results, Try.results53, go_sem, t0, t1]) rfl ⟨rfl, E.out.1, E.out.2⟩
    · go_simp
      refine (CR'.out _ _ G.out.drew.st.tobj G.out.drew.st.cnt G.out.drew.st.stay).mono ?_
      rintro e w9 ⟨rfl, bc, kk⟩
      refine hK.out _ _ (nodePrM ((G.out.drew.on HC.out kk bc).st.stay _ _ HN.out)) (fun hHeld => ?_)
      clear hK K
      have Gx := aside (G.out.drew.on HC.out kk bc)
      clear bc kk
      obtain ⟨s0, s1, z0, z1⟩ := duo Gx.out.sm
      refine wpAnyH_ready (rs := [1]) (by kernel_rfl) (by simp) ?_
      refine AllReadyH.cons rfl (fun K hK => ?_) AllReadyH.nil
      go_simp
      refine hK.out _ _ (hHeld) (fun hHeld => ?_)
      clear hK K 
      clear s0 s1 z0 z1
      refine wpAnyH_ready (rs := [12]) (by kernel_rfl) (by simp) ?_
      refine AllReadyH.cons rfl (fun K hK => ?_) AllReadyH.nil
      go_simp
      refine (HB _ tb (n + cr) root s yr Gx.out.st.tobj Gx.out.st.cnt hzr).mono ?_
      rintro e w9 ⟨rfl, bc, kk⟩
      refine hK.out _ _ (nodePrM ((Gx.out.on HC.out kk bc).st.stay _ _ HN.out)) (fun hHeld => ?_)
      clear hK K 
      have Gxb := aside (Gx.out.on HC.out kk bc)
      obtain ⟨s0, s1, z0, z1⟩ := duo Gxb.out.sm
      clear bc kk
      refine wpAnyH_ready (rs := [13]) (by kernel_rfl) (by simp) ?_
      refine AllReadyH.cons rfl (fun K hK => ?_) AllReadyH.nil
      go_simp
      refine hK.out _ _ (nodePrM ((Gxb.out.set HC.out (mJoin s yr)).st.stay _ _ HN.out)) (fun hHeld => ?_)
      clear hK K 
      have Gxc := aside (Gxb.out.set HC.out (mJoin s yr))
      clear hHeld s0 s1 z0 z1 Gxb
      unfold set2 at Gxc
      refine wpAnyH_done (by kernel_rfl) ?_ _
      generalize (w9.setCell ⟨w.heap.size + 1, 0, none⟩ (.int .u64 (mJoin s yr).a)).setCell ⟨w.heap.size + 1, 1, none⟩ (.int .u64 (mJoin s yr).b) = V2 at *
      obtain ⟨s0, s1, z0, z1⟩ := duo Gxc.out.sm
      obtain ⟨t0, t1, y0, y1⟩ := duo Gxc.out.st.res
      have E := aside (set2_end Gxc.out.st HC.out (mJoin s yr))
      unfold set2 at E
      go_wp2
      exact bodyPost_ret (v := .agg #[.int .u64 (mJoin s yr).a, .int .u64 (mJoin s yr).b]) (by simp [results, Try.results53, go_sem, t0, t1]) rfl ⟨rfl, E.out.1, E.out.2⟩

end Go.Proofs.Ytnlmlhoddchgbaa
namespace Go.Proofs.Ytnlmlhoddchgbaa
open Go.RowKit
set_option linter.unusedVariables false

set_option maxHeartbeats 6400000 in
set_option maxRecDepth 100000 in
theorem foldD10M {jv : Value} {c : Option Nat} (HB : BothOkM jv c) {w : World} {tb n : Nat} {root : Option Addr} {l : Tr Int Mp} {k : ByteArray} {v : Int} {s q : Mp} {b : Nat} {lp rp : Option Addr} {C H I J lc : Int} (ht : TObjM w tb jv root) (hc : Cnt c n w) (hb : w.heap[b]? = some (.cells #[.string k, .int .i64 v, .int .u64 s.a, .int .u64 s.b, .pointer lp, .pointer rp, .int .i64 C, .int .i64 H, .int .u64 q.a, .int .u64 q.b] 94 (0, 0))) (hl : IsTM w lp l) (hlc : (l.cnt : Int) = lc) {yl : Mp} {cl : Nat} (CFL : ∀ (W : World) (m : Nat), TObjM W tb jv root → Cnt c m W → Stay 94 w W → Calls Try.prog 53 #[.pointer (some ⟨tb, 0, none⟩), .pointer lp, .int .i64 I, .int .i64 lc] W fun e w' => e = .returned (.agg #[.int .u64 yl.a, .int .u64 yl.b]) ∧ Cnt c (m + cl) w' ∧ Keeps (OnC c) W w') (hzl : mSz yl + mSz s ≤ 4611686018427387904) (hz : (I == 0) = true → (J == C) = false) (h1 : ¬ J ≤ lc) (h2 : ¬ lc < I) (h3 : I < lc) (w5 : IntKind.i64.wrap (lc + 1) = lc + 1) (h4 : ¬ lc + 1 < J) : Calls Try.prog 53 #[.pointer (some ⟨tb, 0, none⟩), .pointer (some ⟨b, 0, none⟩), .int .i64 I, .int .i64 J] w fun e w' => e = .returned (.agg #[.int .u64 (mJoin yl s).a, .int .u64 (mJoin yl s).b]) ∧ Cnt c (n + cl + 1) w' ∧ Keeps (OnC c) w w' := by
  have F := aside (fstM ht hc)
  have HC := aside hc
  have HN := aside hb
  have hn := nodeM (F.out.stay _ _ hb)
  obtain ⟨-, -, n2, n3, n4, n5, n6, -, -, -⟩ := hn
  have CR := aside (fun (W : World) (h : Stay 94 w W) => hlc ▸ rowsM (hl.on h))
  have CL' := aside CFL
  clear CFL
  clear ht hc hb hl hlc
  cases hz0 : (I == 0)
  · clear hz
    go_enter Try.func53, Try.ntmps53
    go_wp2_with fail
    refine (CR.out _ F.out.stay).mono ?_
    rintro e w1 ⟨rfl, rfl⟩
    have G := aside (f2stM s F.out)
    go_wp2_with fail
    clear n6 n4 n5 n2 n3 CR
    clear F
    generalize (w.alloc (.cells #[.int .u64 0, .int .u64 0] 28)).alloc (.cells #[.int .u64 s.a, .int .u64 s.b] 28) = V at *
    refine wp_region_held_drew (S := fun X => X.cell? ⟨b, 4, none⟩ = some (.pointer lp)) (by kernel_rfl) (nodePlM (G.out.drew.st.stay _ _ HN.out)) (fun hHeld => ?_)
    refine wpAnyH_take (i := 0) (v := ?_) rfl (by kernel_rfl) (by kernel_rfl) (by kernel_rfl) (fun _ _ _ h => h) (Or.inl ⟨by rfl, ?_⟩) (by assumption) ?_
    rotate_left
    · intro w hSw
      go_simp
      try with_reducible rfl
    simp only [Act.put, List.getElem_toArray, List.getElem_cons_zero, List.setIfInBounds_toArray, List.set_cons_zero, List.set_cons_succ]
    refine wpAnyH_take (i := 1) (v := ?_) rfl (by kernel_rfl) (by kernel_rfl) (by kernel_rfl) (fun _ _ _ h => h) (Or.inl ⟨by rfl, ?_⟩) (by assumption) ?_
    rotate_left
    · intro w hSw
      go_simp
      try with_reducible rfl
    simp only [Act.put, List.getElem_toArray, List.getElem_cons_zero, List.getElem_cons_succ, List.setIfInBounds_toArray, List.set_cons_zero, List.set_cons_succ]
    refine wpAnyH_take (i := 2) (v := ?_) rfl (by kernel_rfl) (by kernel_rfl) (by kernel_rfl) (fun _ _ _ h => h) (Or.inl ⟨by rfl, ?_⟩) (by assumption) ?_
    rotate_left
    · intro w hSw
      go_simp
      try with_reducible rfl
    simp only [Act.put, List.getElem_toArray, List.getElem_cons_zero, List.getElem_cons_succ, List.setIfInBounds_toArray, List.set_cons_zero, List.set_cons_succ]
    refine wpAnyH_take (i := 3) (v := ?_) rfl (by kernel_rfl) (by kernel_rfl) (by kernel_rfl) (fun _ _ _ h => h) (Or.inl ⟨by rfl, ?_⟩) (by assumption) ?_
    rotate_left
    · intro w hSw
      go_simp
      try with_reducible rfl
    simp only [Act.put, List.getElem_toArray, List.getElem_cons_zero, List.getElem_cons_succ, List.setIfInBounds_toArray, List.set_cons_zero, List.set_cons_succ]
    refine wpAnyH_take (i := 4) (v := ?_) rfl (by kernel_rfl) (by kernel_rfl) (by kernel_rfl) (fun _ _ _ h => h) (Or.inl ⟨by rfl, ?_⟩) (by assumption) ?_
    rotate_left
    · intro w hSw
      go_simp
      try with_reducible rfl
    simp only [Act.put, List.getElem_toArray, List.getElem_cons_zero, List.getElem_cons_succ, List.setIfInBounds_toArray, List.set_cons_zero, List.set_cons_succ]
    refine wpAnyH_take (i := 5) (v := ?_) rfl (by kernel_rfl) (by kernel_rfl) (by kernel_rfl) (fun _ _ _ h => h) (Or.inl ⟨by rfl, ?_⟩) (by assumption) ?_
    rotate_left
    · intro w hSw
      go_simp
      try with_reducible rfl
    simp only [Act.put, List.getElem_toArray, List.getElem_cons_zero, List.getElem_cons_succ, List.setIfInBounds_toArray, List.set_cons_zero, List.set_cons_succ]
    refine wpAnyH_take (i := 6) (v := ?_) rfl (by kernel_rfl) (by kernel_rfl) (by kernel_rfl) (fun _ _ _ h => h) (Or.inl ⟨by rfl, ?_⟩) (by assumption) ?_
    rotate_left
    · intro w hSw
      go_simp
      try with_reducible rfl
    simp only [Act.put, List.getElem_toArray, List.getElem_cons_zero, List.getElem_cons_succ, List.setIfInBounds_toArray, List.set_cons_zero, List.set_cons_succ]
    refine wpAnyH_take (i := 7) (v := ?_) rfl (by kernel_rfl) (by kernel_rfl) (by kernel_rfl) (fun _ _ _ h => h) (Or.inl ⟨by rfl, ?_⟩) (by assumption) ?_
    rotate_left
    · intro w hSw
      go_simp
      try with_reducible rfl
    simp only [Act.put, List.getElem_toArray, List.getElem_cons_zero, List.getElem_cons_succ, List.setIfInBounds_toArray, List.set_cons_zero, List.set_cons_succ]
    refine wpAnyH_ready (rs := [8, 9]) (by kernel_rfl) (by simp) ?_
    refine AllReadyH.cons rfl (fun K hK => ?_) (AllReadyH.cons rfl (fun K hK => ?_) AllReadyH.nil)
    · go_simp
      refine (CL'.out _ _ G.out.drew.st.tobj G.out.drew.st.cnt G.out.drew.st.stay).mono ?_
      rintro e w9 ⟨rfl, bc, kk⟩
      refine hK.out _ _ (nodePlM ((G.out.drew.on HC.out kk bc).st.stay _ _ HN.out)) (fun hHeld => ?_)
      clear hK K
      have G1 := aside (G.out.drew.on HC.out kk bc)
      clear bc kk
      obtain ⟨s0, s1, z0, z1⟩ := duo G1.out.sm
      refine wpAnyH_ready (rs := [9]) (by kernel_rfl) (by simp) ?_
      refine AllReadyH.cons rfl (fun K hK => ?_) AllReadyH.nil
      go_simp
      refine hK.out _ _ (hHeld) (fun hHeld => ?_)
      clear hK K 
      clear s0 s1 z0 z1
      refine wpAnyH_ready (rs := [10]) (by kernel_rfl) (by simp) ?_
      refine AllReadyH.cons rfl (fun K hK => ?_) AllReadyH.nil
      go_simp
      refine (HB _ tb (n + cl) root yl s G1.out.st.tobj G1.out.st.cnt hzl).mono ?_
      rintro e w9 ⟨rfl, bc, kk⟩
      refine hK.out _ _ (nodePlM ((G1.out.on HC.out kk bc).st.stay _ _ HN.out)) (fun hHeld => ?_)
      clear hK K 
      have G1b := aside (G1.out.on HC.out kk bc)
      obtain ⟨s0, s1, z0, z1⟩ := duo G1b.out.sm
      clear bc kk
      refine wpAnyH_ready (rs := [11]) (by kernel_rfl) (by simp) ?_
      refine AllReadyH.cons rfl (fun K hK => ?_) AllReadyH.nil
      go_simp
      refine hK.out _ _ (nodePlM ((G1b.out.set HC.out (mJoin yl s)).st.stay _ _ HN.out)) (fun hHeld => ?_)
      clear hK K 
      have G1c := aside (G1b.out.set HC.out (mJoin yl s))
      clear hHeld s0 s1 z0 z1 G1b
      unfold set2 at G1c
      refine wpAnyH_done (by kernel_rfl) ?_ _
      generalize (w9.setCell ⟨w.heap.size + 1, 0, none⟩ (.int .u64 (mJoin yl s).a)).setCell ⟨w.heap.size + 1, 1, none⟩ (.int .u64 (mJoin yl s).b) = V1 at *
      obtain ⟨s0, s1, z0, z1⟩ := duo G1c.out.sm
      obtain ⟨t0, t1, y0, y1⟩ := duo G1c.out.st.res
      have E := aside (set2_end G1c.out.st HC.out (mJoin yl s))
      unfold set2 at E
      go_wp2
      exact bodyPost_ret (v := .agg #[.int .u64 (mJoin yl s).a, .int .u64 (mJoin yl s).b]) (by simp [results, Try.results53, go_sem, t0, t1]) rfl ⟨rfl, E.out.1, E.out.2⟩
    · obtain ⟨s0, s1, z0, z1⟩ := duo G.out.drew.sm
      go_simp
      refine hK.out _ _ hHeld (fun hHeld => ?_)
      clear hK K s0 s1 z0 z1
      refine wpAnyH_ready (rs := [8]) (by kernel_rfl) (by simp) ?_
      refine AllReadyH.cons rfl (fun K hK => ?_) AllReadyH.nil
      go_simp
      refine (CL'.out _ _ G.out.drew.st.tobj G.out.drew.st.cnt G.out.drew.st.stay).mono ?_
      rintro e w9 ⟨rfl, bc, kk⟩
      refine hK.out _ _ (nodePlM ((G.out.drew.on HC.out kk bc).st.stay _ _ HN.out)) (fun hHeld => ?_)
      clear hK K 
      have G1 := aside (G.out.drew.on HC.out kk bc)
      clear bc kk
      refine wpAnyH_ready (rs := [10]) (by kernel_rfl) (by simp) ?_
      refine AllReadyH.cons rfl (fun K hK => ?_) AllReadyH.nil
      go_simp
      refine (HB _ tb (n + cl) root yl s G1.out.st.tobj G1.out.st.cnt hzl).mono ?_
      rintro e w9 ⟨rfl, bc, kk⟩
      refine hK.out _ _ (nodePlM ((G1.out.on HC.out kk bc).st.stay _ _ HN.out)) (fun hHeld => ?_)
      clear hK K 
      have G1b := aside (G1.out.on HC.out kk bc)
      obtain ⟨s0, s1, z0, z1⟩ := duo G1b.out.sm
      clear bc kk
      refine wpAnyH_ready (rs := [11]) (by kernel_rfl) (by simp) ?_
      refine AllReadyH.cons rfl (fun K hK => ?_) AllReadyH.nil
      go_simp
      refine hK.out _ _ (nodePlM ((G1b.out.set HC.out (mJoin yl s)).st.stay _ _ HN.out)) (fun hHeld => ?_)
      clear hK K 
      have G1c := aside (G1b.out.set HC.out (mJoin yl s))
      clear hHeld s0 s1 z0 z1 G1b
      unfold set2 at G1c
      refine wpAnyH_done (by kernel_rfl) ?_ _
      generalize (w9.setCell ⟨w.heap.size + 1, 0, none⟩ (.int .u64 (mJoin yl s).a)).setCell ⟨w.heap.size + 1, 1, none⟩ (.int .u64 (mJoin yl s).b) = V1 at *
      obtain ⟨s0, s1, z0, z1⟩ := duo G1c.out.sm
      obtain ⟨t0, t1, y0, y1⟩ := duo G1c.out.st.res
      have E := aside (set2_end G1c.out.st HC.out (mJoin yl s))
      unfold set2 at E
      go_wp2
      exact bodyPost_ret (v := .agg #[.int .u64 (mJoin yl s).a, .int .u64 (mJoin yl s).b]) (by simp [results, Try.results53, go_sem, t0, t1]) rfl ⟨rfl, E.out.1, E.out.2⟩
  · have hz1 := hz hz0
    clear hz
    go_enter Try.func53, Try.ntmps53
    go_wp2_with fail
    refine (CR.out _ F.out.stay).mono ?_
    rintro e w1 ⟨rfl, rfl⟩
    have G := aside (f2stM s F.out)
    go_wp2_with fail
    clear n6 n4 n5 n2 n3 CR
    clear F
    generalize (w.alloc (.cells #[.int .u64 0, .int .u64 0] 28)).alloc (.cells #[.int .u64 s.a, .int .u64 s.b] 28) = V at *
    refine wp_region_held_drew (S := fun X => X.cell? ⟨b, 4, none⟩ = some (.pointer lp)) (by kernel_rfl) (nodePlM (G.out.drew.st.stay _ _ HN.out)) (fun hHeld => ?_)
    refine wpAnyH_take (i := 0) (v := ?_) rfl (by kernel_rfl) (by kernel_rfl) (by kernel_rfl) (fun _ _ _ h => h) (Or.inl ⟨by rfl, ?_⟩) (by assumption) ?_
    rotate_left
    · intro w hSw
      go_simp
      try with_reducible rfl
    simp only [Act.put, List.getElem_toArray, List.getElem_cons_zero, List.setIfInBounds_toArray, List.set_cons_zero, List.set_cons_succ]
    refine wpAnyH_take (i := 1) (v := ?_) rfl (by kernel_rfl) (by kernel_rfl) (by kernel_rfl) (fun _ _ _ h => h) (Or.inl ⟨by rfl, ?_⟩) (by assumption) ?_
    rotate_left
    · intro w hSw
      go_simp
      try with_reducible rfl
    simp only [Act.put, List.getElem_toArray, List.getElem_cons_zero, List.getElem_cons_succ, List.setIfInBounds_toArray, List.set_cons_zero, List.set_cons_succ]
    refine wpAnyH_take (i := 2) (v := ?_) rfl (by kernel_rfl) (by kernel_rfl) (by kernel_rfl) (fun _ _ _ h => h) (Or.inl ⟨by rfl, ?_⟩) (by assumption) ?_
    rotate_left
    · intro w hSw
      go_simp
      try with_reducible rfl
    simp only [Act.put, List.getElem_toArray, List.getElem_cons_zero, List.getElem_cons_succ, List.setIfInBounds_toArray, List.set_cons_zero, List.set_cons_succ]
    refine wpAnyH_take (i := 3) (v := ?_) rfl (by kernel_rfl) (by kernel_rfl) (by kernel_rfl) (fun _ _ _ h => h) (Or.inl ⟨by rfl, ?_⟩) (by assumption) ?_
    rotate_left
    · intro w hSw
      go_simp
      try with_reducible rfl
    simp only [Act.put, List.getElem_toArray, List.getElem_cons_zero, List.getElem_cons_succ, List.setIfInBounds_toArray, List.set_cons_zero, List.set_cons_succ]
    refine wpAnyH_take (i := 4) (v := ?_) rfl (by kernel_rfl) (by kernel_rfl) (by kernel_rfl) (fun _ _ _ h => h) (Or.inl ⟨by rfl, ?_⟩) (by assumption) ?_
    rotate_left
    · intro w hSw
      go_simp
      try with_reducible rfl
    simp only [Act.put, List.getElem_toArray, List.getElem_cons_zero, List.getElem_cons_succ, List.setIfInBounds_toArray, List.set_cons_zero, List.set_cons_succ]
    refine wpAnyH_take (i := 5) (v := ?_) rfl (by kernel_rfl) (by kernel_rfl) (by kernel_rfl) (fun _ _ _ h => h) (Or.inl ⟨by rfl, ?_⟩) (by assumption) ?_
    rotate_left
    · intro w hSw
      go_simp
      try with_reducible rfl
    simp only [Act.put, List.getElem_toArray, List.getElem_cons_zero, List.getElem_cons_succ, List.setIfInBounds_toArray, List.set_cons_zero, List.set_cons_succ]
    refine wpAnyH_take (i := 6) (v := ?_) rfl (by kernel_rfl) (by kernel_rfl) (by kernel_rfl) (fun _ _ _ h => h) (Or.inl ⟨by rfl, ?_⟩) (by assumption) ?_
    rotate_left
    · intro w hSw
      go_simp
      try with_reducible rfl
    simp only [Act.put, List.getElem_toArray, List.getElem_cons_zero, List.getElem_cons_succ, List.setIfInBounds_toArray, List.set_cons_zero, List.set_cons_succ]
    refine wpAnyH_take (i := 7) (v := ?_) rfl (by kernel_rfl) (by kernel_rfl) (by kernel_rfl) (fun _ _ _ h => h) (Or.inl ⟨by rfl, ?_⟩) (by assumption) ?_
    rotate_left
    · intro w hSw
      go_simp
      try with_reducible rfl
    simp only [Act.put, List.getElem_toArray, List.getElem_cons_zero, List.getElem_cons_succ, List.setIfInBounds_toArray, List.set_cons_zero, List.set_cons_succ]
    refine wpAnyH_ready (rs := [8, 9]) (by kernel_rfl) (by simp) ?_
    refine AllReadyH.cons rfl (fun K hK => ?_) (AllReadyH.cons rfl (fun K hK => ?_) AllReadyH.nil)
    · go_simp
      refine (CL'.out _ _ G.out.drew.st.tobj G.out.drew.st.cnt G.out.drew.st.stay).mono ?_
      rintro e w9 ⟨rfl, bc, kk⟩
      refine hK.out _ _ (nodePlM ((G.out.drew.on HC.out kk bc).st.stay _ _ HN.out)) (fun hHeld => ?_)
      clear hK K
      have G1 := aside (G.out.drew.on HC.out kk bc)
      clear bc kk
      obtain ⟨s0, s1, z0, z1⟩ := duo G1.out.sm
      refine wpAnyH_ready (rs := [9]) (by kernel_rfl) (by simp) ?_
      refine AllReadyH.cons rfl (fun K hK => ?_) AllReadyH.nil
      go_simp
      refine hK.out _ _ (hHeld) (fun hHeld => ?_)
      clear hK K 
      clear s0 s1 z0 z1
      refine wpAnyH_ready (rs := [10]) (by kernel_rfl) (by simp) ?_
      refine AllReadyH.cons rfl (fun K hK => ?_) AllReadyH.nil
      go_simp
      refine (HB _ tb (n + cl) root yl s G1.out.st.tobj G1.out.st.cnt hzl).mono ?_
      rintro e w9 ⟨rfl, bc, kk⟩
      refine hK.out _ _ (nodePlM ((G1.out.on HC.out kk bc).st.stay _ _ HN.out)) (fun hHeld => ?_)
      clear hK K 
      have G1b := aside (G1.out.on HC.out kk bc)
      obtain ⟨s0, s1, z0, z1⟩ := duo G1b.out.sm
      clear bc kk
      refine wpAnyH_ready (rs := [11]) (by kernel_rfl) (by simp) ?_
      refine AllReadyH.cons rfl (fun K hK => ?_) AllReadyH.nil
      go_simp
      refine hK.out _ _ (nodePlM ((G1b.out.set HC.out (mJoin yl s)).st.stay _ _ HN.out)) (fun hHeld => ?_)
      clear hK K 
      have G1c := aside (G1b.out.set HC.out (mJoin yl s))
      clear hHeld s0 s1 z0 z1 G1b
      unfold set2 at G1c
      refine wpAnyH_done (by kernel_rfl) ?_ _
      generalize (w9.setCell ⟨w.heap.size + 1, 0, none⟩ (.int .u64 (mJoin yl s).a)).setCell ⟨w.heap.size + 1, 1, none⟩ (.int .u64 (mJoin yl s).b) = V1 at *
      obtain ⟨s0, s1, z0, z1⟩ := duo G1c.out.sm
      obtain ⟨t0, t1, y0, y1⟩ := duo G1c.out.st.res
      have E := aside (set2_end G1c.out.st HC.out (mJoin yl s))
      unfold set2 at E
      go_wp2
      exact bodyPost_ret (v := .agg #[.int .u64 (mJoin yl s).a, .int .u64 (mJoin yl s).b]) (by simp [results, Try.results53, go_sem, t0, t1]) rfl ⟨rfl, E.out.1, E.out.2⟩
    · obtain ⟨s0, s1, z0, z1⟩ := duo G.out.drew.sm
      go_simp
      refine hK.out _ _ hHeld (fun hHeld => ?_)
      clear hK K s0 s1 z0 z1
      refine wpAnyH_ready (rs := [8]) (by kernel_rfl) (by simp) ?_
      refine AllReadyH.cons rfl (fun K hK => ?_) AllReadyH.nil
      go_simp
      refine (CL'.out _ _ G.out.drew.st.tobj G.out.drew.st.cnt G.out.drew.st.stay).mono ?_
      rintro e w9 ⟨rfl, bc, kk⟩
      refine hK.out _ _ (nodePlM ((G.out.drew.on HC.out kk bc).st.stay _ _ HN.out)) (fun hHeld => ?_)
      clear hK K 
      have G1 := aside (G.out.drew.on HC.out kk bc)
      clear bc kk
      refine wpAnyH_ready (rs := [10]) (by kernel_rfl) (by simp) ?_
      refine AllReadyH.cons rfl (fun K hK => ?_) AllReadyH.nil
      go_simp
      refine (HB _ tb (n + cl) root yl s G1.out.st.tobj G1.out.st.cnt hzl).mono ?_
      rintro e w9 ⟨rfl, bc, kk⟩
      refine hK.out _ _ (nodePlM ((G1.out.on HC.out kk bc).st.stay _ _ HN.out)) (fun hHeld => ?_)
      clear hK K 
      have G1b := aside (G1.out.on HC.out kk bc)
      obtain ⟨s0, s1, z0, z1⟩ := duo G1b.out.sm
      clear bc kk
      refine wpAnyH_ready (rs := [11]) (by kernel_rfl) (by simp) ?_
      refine AllReadyH.cons rfl (fun K hK => ?_) AllReadyH.nil
      go_simp
      refine hK.out _ _ (nodePlM ((G1b.out.set HC.out (mJoin yl s)).st.stay _ _ HN.out)) (fun hHeld => ?_)
      clear hK K 
      have G1c := aside (G1b.out.set HC.out (mJoin yl s))
      clear hHeld s0 s1 z0 z1 G1b
      unfold set2 at G1c
      refine wpAnyH_done (by kernel_rfl) ?_ _
      generalize (w9.setCell ⟨w.heap.size + 1, 0, none⟩ (.int .u64 (mJoin yl s).a)).setCell ⟨w.heap.size + 1, 1, none⟩ (.int .u64 (mJoin yl s).b) = V1 at *
      obtain ⟨s0, s1, z0, z1⟩ := duo G1c.out.sm
      obtain ⟨t0, t1, y0, y1⟩ := duo G1c.out.st.res
      have E := aside (set2_end G1c.out.st HC.out (mJoin yl s))
      unfold set2 at E
      go_wp2
      exact bodyPost_ret (v := .agg #[.int .u64 (mJoin yl s).a, .int .u64 (mJoin yl s).b]) (by simp [results, Try.results53, go_sem, t0, t1]) rfl ⟨rfl, E.out.1, E.out.2⟩

end Go.Proofs.Ytnlmlhoddchgbaa
namespace Go.Proofs.Ytnlmlhoddchgbaa
open Go.RowKit
set_option linter.unusedVariables false

set_option maxHeartbeats 6400000 in
set_option maxRecDepth 100000 in
theorem foldD11M {jv : Value} {c : Option Nat} (HB : BothOkM jv c) {w : World} {tb n : Nat} {root : Option Addr} {l : Tr Int Mp} {k : ByteArray} {v : Int} {s q : Mp} {b : Nat} {lp rp : Option Addr} {C H I J lc : Int} (ht : TObjM w tb jv root) (hc : Cnt c n w) (hb : w.heap[b]? = some (.cells #[.string k, .int .i64 v, .int .u64 s.a, .int .u64 s.b, .pointer lp, .pointer rp, .int .i64 C, .int .i64 H, .int .u64 q.a, .int .u64 q.b] 94 (0, 0))) (hl : IsTM w lp l) (hlc : (l.cnt : Int) = lc) {yl : Mp} {cl : Nat} (CFL : ∀ (W : World) (m : Nat), TObjM W tb jv root → Cnt c m W → Stay 94 w W → Calls Try.prog 53 #[.pointer (some ⟨tb, 0, none⟩), .pointer lp, .int .i64 I, .int .i64 lc] W fun e w' => e = .returned (.agg #[.int .u64 yl.a, .int .u64 yl.b]) ∧ Cnt c (m + cl) w' ∧ Keeps (OnC c) W w') (hzl : mSz yl + mSz s ≤ 4611686018427387904) {yr : Mp} {cr : Nat} (CFR : ∀ (W : World) (m : Nat), TObjM W tb jv root → Cnt c m W → Stay 94 w W → Calls Try.prog 53 #[.pointer (some ⟨tb, 0, none⟩), .pointer rp, .int .i64 0, .int .i64 (J - lc - 1)] W fun e w' => e = .returned (.agg #[.int .u64 yr.a, .int .u64 yr.b]) ∧ Cnt c (m + cr) w' ∧ Keeps (OnC c) W w') (hzr : mSz (mJoin yl s) + mSz yr ≤ 4611686018427387904) (w3 : IntKind.i64.wrap (J - lc) = J - lc) (w4 : IntKind.i64.wrap (J - lc - 1) = J - lc - 1) (hz : (I == 0) = true → (J == C) = false) (h1 : ¬ J ≤ lc) (h2 : ¬ lc < I) (h3 : I < lc) (w5 : IntKind.i64.wrap (lc + 1) = lc + 1) (h4 : lc + 1 < J) : Calls Try.prog 53 #[.pointer (some ⟨tb, 0, none⟩), .pointer (some ⟨b, 0, none⟩), .int .i64 I, .int .i64 J] w fun e w' => e = .returned (.agg #[.int .u64 (mJoin (mJoin yl s) yr).a, .int .u64 (mJoin (mJoin yl s) yr).b]) ∧ Cnt c ((n + cl + 1) + cr + 1) w' ∧ Keeps (OnC c) w w' := by
  have F := aside (fstM ht hc)
  have HC := aside hc
  have HN := aside hb
  have hn := nodeM (F.out.stay _ _ hb)
  obtain ⟨-, -, n2, n3, n4, n5, n6, -, -, -⟩ := hn
  have CR := aside (fun (W : World) (h : Stay 94 w W) => hlc ▸ rowsM (hl.on h))
  have CL' := aside CFL
  clear CFL
  have CR' := aside CFR
  clear CFR
  clear ht hc hb hl hlc
  cases hz0 : (I == 0)
  · clear hz
    go_enter Try.func53, Try.ntmps53
    go_wp2_with fail
    refine (CR.out _ F.out.stay).mono ?_
    rintro e w1 ⟨rfl, rfl⟩
    have G := aside (f2stM s F.out)
    go_wp2_with fail
    clear n6 n4 n5 n2 n3 CR
    clear F
    generalize (w.alloc (.cells #[.int .u64 0, .int .u64 0] 28)).alloc (.cells #[.int .u64 s.a, .int .u64 s.b] 28) = V at *
    refine wp_region_held_drew (S := fun X => X.cell? ⟨b, 4, none⟩ = some (.pointer lp)) (by kernel_rfl) (nodePlM (G.out.drew.st.stay _ _ HN.out)) (fun hHeld => ?_)
    refine wpAnyH_take (i := 0) (v := ?_) rfl (by kernel_rfl) (by kernel_rfl) (by kernel_rfl) (fun _ _ _ h => h) (Or.inl ⟨by rfl, ?_⟩) (by assumption) ?_
    rotate_left
    · intro w hSw
      go_simp
      try with_reducible rfl
    simp only [Act.put, List.getElem_toArray, List.getElem_cons_zero, List.setIfInBounds_toArray, List.set_cons_zero, List.set_cons_succ]
    refine wpAnyH_take (i := 1) (v := ?_) rfl (by kernel_rfl) (by kernel_rfl) (by kernel_rfl) (fun _ _ _ h => h) (Or.inl ⟨by rfl, ?_⟩) (by assumption) ?_
    rotate_left
    · intro w hSw
      go_simp
      try with_reducible rfl
    simp only [Act.put, List.getElem_toArray, List.getElem_cons_zero, List.getElem_cons_succ, List.setIfInBounds_toArray, List.set_cons_zero, List.set_cons_succ]
    refine wpAnyH_take (i := 2) (v := ?_) rfl (by kernel_rfl) (by kernel_rfl) (by kernel_rfl) (fun _ _ _ h => h) (Or.inl ⟨by rfl, ?_⟩) (by assumption) ?_
    rotate_left
    · intro w hSw
      go_simp
      try with_reducible rfl
    simp only [Act.put, List.getElem_toArray, List.getElem_cons_zero, List.getElem_cons_succ, List.setIfInBounds_toArray, List.set_cons_zero, List.set_cons_succ]
    refine wpAnyH_take (i := 3) (v := ?_) rfl (by kernel_rfl) (by kernel_rfl) (by kernel_rfl) (fun _ _ _ h => h) (Or.inl ⟨by rfl, ?_⟩) (by assumption) ?_
    rotate_left
    · intro w hSw
      go_simp
      try with_reducible rfl
    simp only [Act.put, List.getElem_toArray, List.getElem_cons_zero, List.getElem_cons_succ, List.setIfInBounds_toArray, List.set_cons_zero, List.set_cons_succ]
    refine wpAnyH_take (i := 4) (v := ?_) rfl (by kernel_rfl) (by kernel_rfl) (by kernel_rfl) (fun _ _ _ h => h) (Or.inl ⟨by rfl, ?_⟩) (by assumption) ?_
    rotate_left
    · intro w hSw
      go_simp
      try with_reducible rfl
    simp only [Act.put, List.getElem_toArray, List.getElem_cons_zero, List.getElem_cons_succ, List.setIfInBounds_toArray, List.set_cons_zero, List.set_cons_succ]
    refine wpAnyH_take (i := 5) (v := ?_) rfl (by kernel_rfl) (by kernel_rfl) (by kernel_rfl) (fun _ _ _ h => h) (Or.inl ⟨by rfl, ?_⟩) (by assumption) ?_
    rotate_left
    · intro w hSw
      go_simp
      try with_reducible rfl
    simp only [Act.put, List.getElem_toArray, List.getElem_cons_zero, List.getElem_cons_succ, List.setIfInBounds_toArray, List.set_cons_zero, List.set_cons_succ]
    refine wpAnyH_take (i := 6) (v := ?_) rfl (by kernel_rfl) (by kernel_rfl) (by kernel_rfl) (fun _ _ _ h => h) (Or.inl ⟨by rfl, ?_⟩) (by assumption) ?_
    rotate_left
    · intro w hSw
      go_simp
      try with_reducible rfl
    simp only [Act.put, List.getElem_toArray, List.getElem_cons_zero, List.getElem_cons_succ, List.setIfInBounds_toArray, List.set_cons_zero, List.set_cons_succ]
    refine wpAnyH_take (i := 7) (v := ?_) rfl (by kernel_rfl) (by kernel_rfl) (by kernel_rfl) (fun _ _ _ h => h) (Or.inl ⟨by rfl, ?_⟩) (by assumption) ?_
    rotate_left
    · intro w hSw
      go_simp
      try with_reducible rfl
    simp only [Act.put, List.getElem_toArray, List.getElem_cons_zero, List.getElem_cons_succ, List.setIfInBounds_toArray, List.set_cons_zero, List.set_cons_succ]
    refine wpAnyH_ready (rs := [8, 9]) (by kernel_rfl) (by simp) ?_
    refine AllReadyH.cons rfl (fun K hK => ?_) (AllReadyH.cons rfl (fun K hK => ?_) AllReadyH.nil)
    · go_simp
      refine (CL'.out _ _ G.out.drew.st.tobj G.out.drew.st.cnt G.out.drew.st.stay).mono ?_
      rintro e w9 ⟨rfl, bc, kk⟩
      refine hK.out _ _ (nodePlM ((G.out.drew.on HC.out kk bc).st.stay _ _ HN.out)) (fun hHeld => ?_)
      clear hK K
      have G1 := aside (G.out.drew.on HC.out kk bc)
      clear bc kk
      obtain ⟨s0, s1, z0, z1⟩ := duo G1.out.sm
      refine wpAnyH_ready (rs := [9]) (by kernel_rfl) (by simp) ?_
      refine AllReadyH.cons rfl (fun K hK => ?_) AllReadyH.nil
      go_simp
      refine hK.out _ _ (hHeld) (fun hHeld => ?_)
      clear hK K 
      clear s0 s1 z0 z1
      refine wpAnyH_ready (rs := [10]) (by kernel_rfl) (by simp) ?_
      refine AllReadyH.cons rfl (fun K hK => ?_) AllReadyH.nil
      go_simp
      refine (HB _ tb (n + cl) root yl s G1.out.st.tobj G1.out.st.cnt hzl).mono ?_
      rintro e w9 ⟨rfl, bc, kk⟩
      refine hK.out _ _ (nodePlM ((G1.out.on HC.out kk bc).st.stay _ _ HN.out)) (fun hHeld => ?_)
      clear hK K 
      have G1b := aside (G1.out.on HC.out kk bc)
      obtain ⟨s0, s1, z0, z1⟩ := duo G1b.out.sm
      clear bc kk
      refine wpAnyH_ready (rs := [11]) (by kernel_rfl) (by simp) ?_
      refine AllReadyH.cons rfl (fun K hK => ?_) AllReadyH.nil
      go_simp
      refine hK.out _ _ (nodePlM ((G1b.out.set HC.out (mJoin yl s)).st.stay _ _ HN.out)) (fun hHeld => ?_)
      clear hK K 
      have G1c := aside (G1b.out.set HC.out (mJoin yl s))
      clear hHeld s0 s1 z0 z1 G1b
      unfold set2 at G1c
      refine wpAnyH_done (by kernel_rfl) ?_ _
      generalize (w9.setCell ⟨w.heap.size + 1, 0, none⟩ (.int .u64 (mJoin yl s).a)).setCell ⟨w.heap.size + 1, 1, none⟩ (.int .u64 (mJoin yl s).b) = V1 at *
      go_wp2_with fail
      refine wp_region_held_drew (S := fun X => X.cell? ⟨b, 5, none⟩ = some (.pointer rp)) (by kernel_rfl) (nodePrM (G1c.out.drew.st.stay _ _ HN.out)) (fun hHeld => ?_)
      refine wpAnyH_take (i := 0) (v := ?_) rfl (by kernel_rfl) (by kernel_rfl) (by kernel_rfl) (fun _ _ _ h => h) (Or.inl ⟨by rfl, ?_⟩) (by assumption) ?_
      rotate_left
      · intro w hSw
        go_simp
        try with_reducible rfl
      simp only [Act.put, List.getElem_toArray, List.getElem_cons_zero, List.setIfInBounds_toArray, List.set_cons_zero, List.set_cons_succ]
      refine wpAnyH_take (i := 2) (v := ?_) rfl (by kernel_rfl) (by kernel_rfl) (by kernel_rfl) (fun _ _ _ h => h) (Or.inl ⟨by rfl, ?_⟩) (by assumption) ?_
      rotate_left
      · intro w hSw
        go_simp
        try with_reducible rfl
      simp only [Act.put, List.getElem_toArray, List.getElem_cons_zero, List.getElem_cons_succ, List.setIfInBounds_toArray, List.set_cons_zero, List.set_cons_succ]
      refine wpAnyH_take (i := 3) (v := ?_) rfl (by kernel_rfl) (by kernel_rfl) (by kernel_rfl) (fun _ _ _ h => h) (Or.inl ⟨by rfl, ?_⟩) (by assumption) ?_
      rotate_left
      · intro w hSw
        go_simp
        try with_reducible rfl
      simp only [Act.put, List.getElem_toArray, List.getElem_cons_zero, List.getElem_cons_succ, List.setIfInBounds_toArray, List.set_cons_zero, List.set_cons_succ]
      refine wpAnyH_take (i := 4) (v := ?_) rfl (by kernel_rfl) (by kernel_rfl) (by kernel_rfl) (fun _ _ _ h => h) (Or.inl ⟨by rfl, ?_⟩) (by assumption) ?_
      rotate_left
      · intro w hSw
        go_simp
        try with_reducible rfl
      simp only [Act.put, List.getElem_toArray, List.getElem_cons_zero, List.getElem_cons_succ, List.setIfInBounds_toArray, List.set_cons_zero, List.set_cons_succ]
      refine wpAnyH_take (i := 5) (v := ?_) rfl (by kernel_rfl) (by kernel_rfl) (by kernel_rfl) (fun _ _ _ h => h) (Or.inl ⟨by rfl, ?_⟩) (by assumption) ?_
      rotate_left
      · intro w hSw
        go_simp
        try with_reducible rfl
      simp only [Act.put, List.getElem_toArray, List.getElem_cons_zero, List.getElem_cons_succ, List.setIfInBounds_toArray, List.set_cons_zero, List.set_cons_succ]
      refine wpAnyH_take (i := 6) (v := ?_) rfl (by kernel_rfl) (by kernel_rfl) (by kernel_rfl) (fun _ _ _ h => h) (Or.inl ⟨by rfl, ?_⟩) (by assumption) ?_
      rotate_left
      · intro w hSw
        go_simp
        try with_reducible rfl
      simp only [Act.put, List.getElem_toArray, List.getElem_cons_zero, List.getElem_cons_succ, List.setIfInBounds_toArray, List.set_cons_zero, List.set_cons_succ]
      refine wpAnyH_take (i := 7) (v := ?_) rfl (by kernel_rfl) (by kernel_rfl) (by kernel_rfl) (fun _ _ _ h => h) (Or.inl ⟨by rfl, ?_⟩) (by assumption) ?_
      rotate_left
      · intro w hSw
        go_simp
        try with_reducible rfl
      simp only [Act.put, List.getElem_toArray, List.getElem_cons_zero, List.getElem_cons_succ, List.setIfInBounds_toArray, List.set_cons_zero, List.set_cons_succ]
      refine wpAnyH_take (i := 8) (v := ?_) rfl (by kernel_rfl) (by kernel_rfl) (by kernel_rfl) (fun _ _ _ h => h) (Or.inl ⟨by rfl, ?_⟩) (by assumption) ?_
      rotate_left
      · intro w hSw
        go_simp
        try with_reducible rfl
      simp only [Act.put, List.getElem_toArray, List.getElem_cons_zero, List.getElem_cons_succ, List.setIfInBounds_toArray, List.set_cons_zero, List.set_cons_succ]
      refine wpAnyH_take (i := 9) (v := ?_) rfl (by kernel_rfl) (by kernel_rfl) (by kernel_rfl) (fun _ _ _ h => h) (Or.inl ⟨by rfl, ?_⟩) (by assumption) ?_
      rotate_left
      · intro w hSw
        go_simp
        try with_reducible rfl
      simp only [Act.put, List.getElem_toArray, List.getElem_cons_zero, List.getElem_cons_succ, List.setIfInBounds_toArray, List.set_cons_zero, List.set_cons_succ]
      refine wpAnyH_take (i := 10) (v := ?_) rfl (by kernel_rfl) (by kernel_rfl) (by kernel_rfl) (fun _ _ _ h => h) (Or.inl ⟨by rfl, ?_⟩) (by assumption) ?_
      rotate_left
      · intro w hSw
        go_simp
        try with_reducible rfl
      simp only [Act.put, List.getElem_toArray, List.getElem_cons_zero, List.getElem_cons_succ, List.setIfInBounds_toArray, List.set_cons_zero, List.set_cons_succ]
      refine wpAnyH_ready (rs := [1, 11]) (by kernel_rfl) (by simp) ?_
      refine AllReadyH.cons rfl (fun K hK => ?_) (AllReadyH.cons rfl (fun K hK => ?_) AllReadyH.nil)
      · obtain ⟨s0, s1, z0, z1⟩ := duo G1c.out.drew.sm
        go_simp
        refine hK.out _ _ hHeld (fun hHeld => ?_)
        clear hK K s0 s1 z0 z1
        refine wpAnyH_ready (rs := [11]) (by kernel_rfl) (by simp) ?_
        refine AllReadyH.cons rfl (fun K hK => ?_) AllReadyH.nil
        go_simp
        refine (CR'.out _ _ G1c.out.drew.st.tobj G1c.out.drew.st.cnt G1c.out.drew.st.stay).mono ?_
        rintro e w9 ⟨rfl, bc, kk⟩
        refine hK.out _ _ (nodePrM ((G1c.out.drew.on HC.out kk bc).st.stay _ _ HN.out)) (fun hHeld => ?_)
        clear hK K 
        have G1cx := aside (G1c.out.drew.on HC.out kk bc)
        clear bc kk
        refine wpAnyH_ready (rs := [12]) (by kernel_rfl) (by simp) ?_
        refine AllReadyH.cons rfl (fun K hK => ?_) AllReadyH.nil
        go_simp
        refine (HB _ tb ((n + cl + 1) + cr) root (mJoin yl s) yr G1cx.out.st.tobj G1cx.out.st.cnt hzr).mono ?_
        rintro e w9 ⟨rfl, bc, kk⟩
        refine hK.out _ _ (nodePrM ((G1cx.out.on HC.out kk bc).st.stay _ _ HN.out)) (fun hHeld => ?_)
        clear hK K 
        have G1cxb := aside (G1cx.out.on HC.out kk bc)
        obtain ⟨s0, s1, z0, z1⟩ := duo G1cxb.out.sm
        clear bc kk
        refine wpAnyH_ready (rs := [13]) (by kernel_rfl) (by simp) ?_
        refine AllReadyH.cons rfl (fun K hK => ?_) AllReadyH.nil
        go_simp
        refine hK.out _ _ (nodePrM ((G1cxb.out.set HC.out (mJoin (mJoin yl s) yr)).st.stay _ _ HN.out)) (fun hHeld => ?_)
        clear hK K 
        have G1cxc := aside (G1cxb.out.set HC.out (mJoin (mJoin yl s) yr))
        clear hHeld s0 s1 z0 z1 G1cxb
        unfold set2 at G1cxc
        refine wpAnyH_done (by kernel_rfl) ?_ _
        generalize (w9.setCell ⟨w.heap.size + 1, 0, none⟩ (.int .u64 (mJoin (mJoin yl s) yr).a)).setCell ⟨w.heap.size + 1, 1, none⟩ (.int .u64 (mJoin (mJoin yl s) yr).b) = V2 at *
        obtain ⟨s0, s1, z0, z1⟩ := duo G1cxc.out.sm
        obtain ⟨t0, t1, y0, y1⟩ := duo G1cxc.out.st.res
        have E := aside (set2_end G1cxc.out.st HC.out (mJoin (mJoin yl s) yr))
        unfold set2 at E
        go_wp2
        exact bodyPost_ret (v := .agg #[.int .u64 (mJoin (mJoin yl s) yr).a, .int .u64 (mJoin (mJoin yl s) yr).b]) (by simp [results, Try.results53, go_sem, t0, t1]) rfl ⟨rfl, E.out.1, E.out.2⟩
      · go_simp
        refine (CR'.out _ _ G1c.out.drew.st.tobj G1c.out.drew.st.cnt G1c.out.drew.st.stay).mono ?_
        rintro e w9 ⟨rfl, bc, kk⟩
        refine hK.out _ _ (nodePrM ((G1c.out.drew.on HC.out kk bc).st.stay _ _ HN.out)) (fun hHeld => ?_)
        clear hK K
        have G1cx := aside (G1c.out.drew.on HC.out kk bc)
        clear bc kk
        obtain ⟨s0, s1, z0, z1⟩ := duo G1cx.out.sm
        refine wpAnyH_ready (rs := [1]) (by kernel_rfl) (by simp) ?_
        refine AllReadyH.cons rfl (fun K hK => ?_) AllReadyH.nil
        go_simp
        refine hK.out _ _ (hHeld) (fun hHeld => ?_)
        clear hK K 
        clear s0 s1 z0 z1
        refine wpAnyH_ready (rs := [12]) (by kernel_rfl) (by simp) ?_
        refine AllReadyH.cons rfl (fun K hK => ?_) AllReadyH.nil
        go_simp
        refine (HB _ tb ((n + cl + 1) + cr) root (mJoin yl s) yr G1cx.out.st.tobj G1cx.out.st.cnt hzr).mono ?_
        rintro e w9 ⟨rfl, bc, kk⟩
        refine hK.out _ _ (nodePrM ((G1cx.out.on HC.out kk bc).st.stay _ _ HN.out)) (fun hHeld => ?_)
        clear hK K 
        have G1cxb := aside (G1cx.out.on HC.out kk bc)
        obtain ⟨s0, s1, z0, z1⟩ := duo G1cxb.out.sm
        clear bc kk
        refine wpAnyH_ready (rs := [13]) (by kernel_rfl) (by simp) ?_
        refine AllReadyH.cons rfl (fun K hK => ?_) AllReadyH.nil
        go_simp
        refine hK.out _ _ (nodePrM ((G1cxb.out.set HC.out (mJoin (mJoin yl s) yr)).st.stay _ _ HN.out)) (fun hHeld => ?_)
        clear hK K 
        have G1cxc := aside (G1cxb.out.set HC.out (mJoin (mJoin yl s) yr))
        clear hHeld s0 s1 z0 z1 G1cxb
        unfold set2 at G1cxc
        refine wpAnyH_done (by kernel_rfl) ?_ _
        generalize (w9.setCell ⟨w.heap.size + 1, 0, none⟩ (.int .u64 (mJoin (mJoin yl s) yr).a)).setCell ⟨w.heap.size + 1, 1, none⟩ (.int .u64 (mJoin (mJoin yl s) yr).b) = V2 at *
        obtain ⟨s0, s1, z0, z1⟩ := duo G1cxc.out.sm
        obtain ⟨t0, t1, y0, y1⟩ := duo G1cxc.out.st.res
        have E := aside (set2_end G1cxc.out.st HC.out (mJoin (mJoin yl s) yr))
        unfold set2 at E
        go_wp2
        exact bodyPost_ret (v := .agg #[.int .u64 (mJoin (mJoin yl s) yr).a, .int .u64 (mJoin (mJoin yl s) yr).b]) (by simp [results, Try.results53, go_sem, t0, t1]) rfl ⟨rfl, E.out.1, E.out.2⟩
    · obtain ⟨s0, s1, z0, z1⟩ := duo G.out.drew.sm
      go_simp
      refine hK.out _ _ hHeld (fun hHeld => ?_)
      clear hK K s0 s1 z0 z1
      refine wpAnyH_ready (rs := [8]) (by kernel_rfl) (by simp) ?_
      refine AllReadyH.cons rfl (fun K hK => ?_) AllReadyH.nil
      go_simp
      refine (CL'.out _ _ G.out.drew.st.tobj G.out.drew.st.cnt G.out.drew.st.stay).mono ?_
      rintro e w9 ⟨rfl, bc, kk⟩
      refine hK.out _ _ (nodePlM ((G.out.drew.on HC.out kk bc).st.stay _ _ HN.out)) (fun hHeld => ?_)
      clear hK K 
      have G1 := aside (G.out.drew.on HC.out kk bc)
      clear bc kk
      refine wpAnyH_ready (rs := [10]) (by kernel_rfl) (by simp) ?_
      refine AllReadyH.cons rfl (fun K hK => ?_) AllReadyH.nil
      go_simp
      refine (HB _ tb (n + cl) root yl s G1.out.st.tobj G1.out.st.cnt hzl).mono ?_
      rintro e w9 ⟨rfl, bc, kk⟩
      refine hK.out _ _ (nodePlM ((G1.out.on HC.out kk bc).st.stay _ _ HN.out)) (fun hHeld => ?_)
      clear hK K 
      have G1b := aside (G1.out.on HC.out kk bc)
      obtain ⟨s0, s1, z0, z1⟩ := duo G1b.out.sm
      clear bc kk
      refine wpAnyH_ready (rs := [11]) (by kernel_rfl) (by simp) ?_
      refine AllReadyH.cons rfl (fun K hK => ?_) AllReadyH.nil
      go_simp
      refine hK.out _ _ (nodePlM ((G1b.out.set HC.out (mJoin yl s)).st.stay _ _ HN.out)) (fun hHeld => ?_)
      clear hK K 
      have G1c := aside (G1b.out.set HC.out (mJoin yl s))
      clear hHeld s0 s1 z0 z1 G1b
      unfold set2 at G1c
      refine wpAnyH_done (by kernel_rfl) ?_ _
      generalize (w9.setCell ⟨w.heap.size + 1, 0, none⟩ (.int .u64 (mJoin yl s).a)).setCell ⟨w.heap.size + 1, 1, none⟩ (.int .u64 (mJoin yl s).b) = V1 at *
      go_wp2_with fail
      refine wp_region_held_drew (S := fun X => X.cell? ⟨b, 5, none⟩ = some (.pointer rp)) (by kernel_rfl) (nodePrM (G1c.out.drew.st.stay _ _ HN.out)) (fun hHeld => ?_)
      refine wpAnyH_take (i := 0) (v := ?_) rfl (by kernel_rfl) (by kernel_rfl) (by kernel_rfl) (fun _ _ _ h => h) (Or.inl ⟨by rfl, ?_⟩) (by assumption) ?_
      rotate_left
      · intro w hSw
        go_simp
        try with_reducible rfl
      simp only [Act.put, List.getElem_toArray, List.getElem_cons_zero, List.setIfInBounds_toArray, List.set_cons_zero, List.set_cons_succ]
      refine wpAnyH_take (i := 2) (v := ?_) rfl (by kernel_rfl) (by kernel_rfl) (by kernel_rfl) (fun _ _ _ h => h) (Or.inl ⟨by rfl, ?_⟩) (by assumption) ?_
      rotate_left
      · intro w hSw
        go_simp
        try with_reducible rfl
      simp only [Act.put, List.getElem_toArray, List.getElem_cons_zero, List.getElem_cons_succ, List.setIfInBounds_toArray, List.set_cons_zero, List.set_cons_succ]
      refine wpAnyH_take (i := 3) (v := ?_) rfl (by kernel_rfl) (by kernel_rfl) (by kernel_rfl) (fun _ _ _ h => h) (Or.inl ⟨by rfl, ?_⟩) (by assumption) ?_
      rotate_left
      · intro w hSw
        go_simp
        try with_reducible rfl
      simp only [Act.put, List.getElem_toArray, List.getElem_cons_zero, List.getElem_cons_succ, List.setIfInBounds_toArray, List.set_cons_zero, List.set_cons_succ]
      refine wpAnyH_take (i := 4) (v := ?_) rfl (by kernel_rfl) (by kernel_rfl) (by kernel_rfl) (fun _ _ _ h => h) (Or.inl ⟨by rfl, ?_⟩) (by assumption) ?_
      rotate_left
      · intro w hSw
        go_simp
        try with_reducible rfl
      simp only [Act.put, List.getElem_toArray, List.getElem_cons_zero, List.getElem_cons_succ, List.setIfInBounds_toArray, List.set_cons_zero, List.set_cons_succ]
      refine wpAnyH_take (i := 5) (v := ?_) rfl (by kernel_rfl) (by kernel_rfl) (by kernel_rfl) (fun _ _ _ h => h) (Or.inl ⟨by rfl, ?_⟩) (by assumption) ?_
      rotate_left
      · intro w hSw
        go_simp
        try with_reducible rfl
      simp only [Act.put, List.getElem_toArray, List.getElem_cons_zero, List.getElem_cons_succ, List.setIfInBounds_toArray, List.set_cons_zero, List.set_cons_succ]
      refine wpAnyH_take (i := 6) (v := ?_) rfl (by kernel_rfl) (by kernel_rfl) (by kernel_rfl) (fun _ _ _ h => h) (Or.inl ⟨by rfl, ?_⟩) (by assumption) ?_
      rotate_left
      · intro w hSw
        go_simp
        try with_reducible rfl
      simp only [Act.put, List.getElem_toArray, List.getElem_cons_zero, List.getElem_cons_succ, List.setIfInBounds_toArray, List.set_cons_zero, List.set_cons_succ]
      refine wpAnyH_take (i := 7) (v := ?_) rfl (by kernel_rfl) (by kernel_rfl) (by kernel_rfl) (fun _ _ _ h => h) (Or.inl ⟨by rfl, ?_⟩) (by assumption) ?_
      rotate_left
      · intro w hSw
        go_simp
        try with_reducible rfl
      simp only [Act.put, List.getElem_toArray, List.getElem_cons_zero, List.getElem_cons_succ, List.setIfInBounds_toArray, List.set_cons_zero, List.set_cons_succ]
      refine wpAnyH_take (i := 8) (v := ?_) rfl (by kernel_rfl) (by kernel_rfl) (by kernel_rfl) (fun _ _ _ h => h) (Or.inl ⟨by rfl, ?_⟩) (by assumption) ?_
      rotate_left
      · intro w hSw
        go_simp
        try with_reducible rfl
      simp only [Act.put, List.getElem_toArray, List.getElem_cons_zero, List.getElem_cons_succ, List.setIfInBounds_toArray, List.set_cons_zero, List.set_cons_succ]
      refine wpAnyH_take (i := 9) (v := ?_) rfl (by kernel_rfl) (by kernel_rfl) (by kernel_rfl) (fun _ _ _ h => h) (Or.inl ⟨by rfl, ?_⟩) (by assumption) ?_
      rotate_left
      · intro w hSw
        go_simp
        try with_reducible rfl
      simp only [Act.put, List.getElem_toArray, List.getElem_cons_zero, List.getElem_cons_succ, List.setIfInBounds_toArray, List.set_cons_zero, List.set_cons_succ]
      refine wpAnyH_take (i := 10) (v := ?_) rfl (by kernel_rfl) (by kernel_rfl) (by kernel_rfl) (fun _ _ _ h => h) (Or.inl ⟨by rfl, ?_⟩) (by assumption) ?_
      rotate_left
      · intro w hSw
        go_simp
        try with_reducible rfl
      simp only [Act.put, List.getElem_toArray, List.getElem_cons_zero, List.getElem_cons_succ, List.setIfInBounds_toArray, List.set_cons_zero, List.set_cons_succ]
      refine wpAnyH_ready (rs := [1, 11]) (by kernel_rfl) (by simp) ?_
      refine AllReadyH.cons rfl (fun K hK => ?_) (AllReadyH.cons rfl (fun K hK => ?_) AllReadyH.nil)
      · obtain ⟨s0, s1, z0, z1⟩ := duo G1c.out.drew.sm
        go_simp
        refine hK.out _ _ hHeld (fun hHeld => ?_)
        clear hK K s0 s1 z0 z1
        refine wpAnyH_ready (rs := [11]) (by kernel_rfl) (by simp) ?_
        refine AllReadyH.cons rfl (fun K hK => ?_) AllReadyH.nil
        go_simp
        refine (CR'.out _ _ G1c.out.drew.st.tobj G1c.out.drew.st.cnt G1c.out.drew.st.stay).mono ?_
        rintro e w9 ⟨rfl, bc, kk⟩
        refine hK.out _ _ (nodePrM ((G1c.out.drew.on HC.out kk bc).st.stay _ _ HN.out)) (fun hHeld => ?_)
        clear hK K 
        have G1cx := aside (G1c.out.drew.on HC.out kk bc)
        clear bc kk
        refine wpAnyH_ready (rs := [12]) (by kernel_rfl) (by simp) ?_
        refine AllReadyH.cons rfl (fun K hK => ?_) AllReadyH.nil
        go_simp
        refine (HB _ tb ((n + cl + 1) + cr) root (mJoin yl s) yr G1cx.out.st.tobj G1cx.out.st.cnt hzr).mono ?_
        rintro e w9 ⟨rfl, bc, kk⟩
        refine hK.out _ _ (nodePrM ((G1cx.out.on HC.out kk bc).st.stay _ _ HN.out)) (fun hHeld => ?_)
        clear hK K 
        have G1cxb := aside (G1cx.out.on HC.out kk bc)
        obtain ⟨s0, s1, z0, z1⟩ := duo G1cxb.out.sm
        clear bc kk
        refine wpAnyH_ready (rs := [13]) (by kernel_rfl) (by simp) ?_
        refine AllReadyH.cons rfl (fun K hK => ?_) AllReadyH.nil
        go_simp
        refine hK.out _ _ (nodePrM ((G1cxb.out.set HC.out (mJoin (mJoin yl s) yr)).st.stay _ _ HN.out)) (fun hHeld => ?_)
        clear hK K 
        have G1cxc := aside (G1cxb.out.set HC.out (mJoin (mJoin yl s) yr))
        clear hHeld s0 s1 z0 z1 G1cxb
        unfold set2 at G1cxc
        refine wpAnyH_done (by kernel_rfl) ?_ _
        generalize (w9.setCell ⟨w.heap.size + 1, 0, none⟩ (.int .u64 (mJoin (mJoin yl s) yr).a)).setCell ⟨w.heap.size + 1, 1, none⟩ (.int .u64 (mJoin (mJoin yl s) yr).b) = V2 at *
        obtain ⟨s0, s1, z0, z1⟩ := duo G1cxc.out.sm
        obtain ⟨t0, t1, y0, y1⟩ := duo G1cxc.out.st.res
        have E := aside (set2_end G1cxc.out.st HC.out (mJoin (mJoin yl s) yr))
        unfold set2 at E
        go_wp2
        exact bodyPost_ret (v := .agg #[.int .u64 (mJoin (mJoin yl s) yr).a, .int .u64 (mJoin (mJoin yl s) yr).b]) (by simp [results, Try.results53, go_sem, t0, t1]) rfl ⟨rfl, E.out.1, E.out.2⟩
      · go_simp
        refine (CR'.out _ _ G1c.out.drew.st.tobj G1c.out.drew.st.cnt G1c.out.drew.st.stay).mono ?_
        rintro e w9 ⟨rfl, bc, kk⟩
        refine hK.out _ _ (nodePrM ((G1c.out.drew.on HC.out kk bc).st.stay _ _ HN.out)) (fun hHeld => ?_)
        clear hK K
        have G1cx := aside (G1c.out.drew.on HC.out kk bc)
        clear bc kk
        obtain ⟨s0, s1, z0, z1⟩ := duo G1cx.out.sm
        refine wpAnyH_ready (rs := [1]) (by kernel_rfl) (by simp) ?_
        refine AllReadyH.cons rfl (fun K hK => ?_) AllReadyH.nil
        go_simp
        refine hK.out _ _ (hHeld) (fun hHeld => ?_)
        clear hK K 
        clear s0 s1 z0 z1
        refine wpAnyH_ready (rs := [12]) (by kernel_rfl) (by simp) ?_
        refine AllReadyH.cons rfl (fun K hK => ?_) AllReadyH.nil
        go_simp
        refine (HB _ tb ((n + cl + 1) + cr) root (mJoin yl s) yr G1cx.out.st.tobj G1cx.out.st.cnt hzr).mono ?_
        rintro e w9 ⟨rfl, bc, kk⟩
        refine hK.out _ _ (nodePrM ((G1cx.out.on HC.out kk bc).st.stay _ _ HN.out)) (fun hHeld => ?_)
        clear hK K 
        have G1cxb := aside (G1cx.out.on HC.out kk bc)
        obtain ⟨s0, s1, z0, z1⟩ := duo G1cxb.out.sm
        clear bc kk
        refine wpAnyH_ready (rs := [13]) (by kernel_rfl) (by simp) ?_
        refine AllReadyH.cons rfl (fun K hK => ?_) AllReadyH.nil
        go_simp
        refine hK.out _ _ (nodePrM ((G1cxb.out.set HC.out (mJoin (mJoin yl s) yr)).st.stay _ _ HN.out)) (fun hHeld => ?_)
        clear hK K 
        have G1cxc := aside (G1cxb.out.set HC.out (mJoin (mJoin yl s) yr))
        clear hHeld s0 s1 z0 z1 G1cxb
        unfold set2 at G1cxc
        refine wpAnyH_done (by kernel_rfl) ?_ _
        generalize (w9.setCell ⟨w.heap.size + 1, 0, none⟩ (.int .u64 (mJoin (mJoin yl s) yr).a)).setCell ⟨w.heap.size + 1, 1, none⟩ (.int .u64 (mJoin (mJoin yl s) yr).b) = V2 at *
        obtain ⟨s0, s1, z0, z1⟩ := duo G1cxc.out.sm
        obtain ⟨t0, t1, y0, y1⟩ := duo G1cxc.out.st.res
        have E := aside (set2_end G1cxc.out.st HC.out (mJoin (mJoin yl s) yr))
        unfold set2 at E
        go_wp2
        exact bodyPost_ret (v := .agg #[.int .u64 (mJoin (mJoin yl s) yr).a, .int .u64 (mJoin (mJoin yl s) yr).b]) (by simp [results, Try.results53, go_sem, t0, t1]) rfl ⟨rfl, E.out.1, E.out.2⟩
  · have hz1 := hz hz0
    clear hz
    go_enter Try.func53, Try.ntmps53
    go_wp2_with fail
    refine (CR.out _ F.out.stay).mono ?_
    rintro e w1 ⟨rfl, rfl⟩
    have G := aside (f2stM s F.out)
    go_wp2_with fail
    clear n6 n4 n5 n2 n3 CR
    clear F
    generalize (w.alloc (.cells #[.int .u64 0, .int .u64 0] 28)).alloc (.cells #[.int .u64 s.a, .int .u64 s.b] 28) = V at *
    refine wp_region_held_drew (S := fun X => X.cell? ⟨b, 4, none⟩ = some (.pointer lp)) (by kernel_rfl) (nodePlM (G.out.drew.st.stay _ _ HN.out)) (fun hHeld => ?_)
    refine wpAnyH_take (i := 0) (v := ?_) rfl (by kernel_rfl) (by kernel_rfl) (by kernel_rfl) (fun _ _ _ h => h) (Or.inl ⟨by rfl, ?_⟩) (by assumption) ?_
    rotate_left
    · intro w hSw
      go_simp
      try with_reducible rfl
    simp only [Act.put, List.getElem_toArray, List.getElem_cons_zero, List.setIfInBounds_toArray, List.set_cons_zero, List.set_cons_succ]
    refine wpAnyH_take (i := 1) (v := ?_) rfl (by kernel_rfl) (by kernel_rfl) (by kernel_rfl) (fun _ _ _ h => h) (Or.inl ⟨by rfl, ?_⟩) (by assumption) ?_
    rotate_left
    · intro w hSw
      go_simp
      try with_reducible rfl
    simp only [Act.put, List.getElem_toArray, List.getElem_cons_zero, List.getElem_cons_succ, List.setIfInBounds_toArray, List.set_cons_zero, List.set_cons_succ]
    refine wpAnyH_take (i := 2) (v := ?_) rfl (by kernel_rfl) (by kernel_rfl) (by kernel_rfl) (fun _ _ _ h => h) (Or.inl ⟨by rfl, ?_⟩) (by assumption) ?_
    rotate_left
    · intro w hSw
      go_simp
      try with_reducible rfl
    simp only [Act.put, List.getElem_toArray, List.getElem_cons_zero, List.getElem_cons_succ, List.setIfInBounds_toArray, List.set_cons_zero, List.set_cons_succ]
    refine wpAnyH_take (i := 3) (v := ?_) rfl (by kernel_rfl) (by kernel_rfl) (by kernel_rfl) (fun _ _ _ h => h) (Or.inl ⟨by rfl, ?_⟩) (by assumption) ?_
    rotate_left
    · intro w hSw
      go_simp
      try with_reducible rfl
    simp only [Act.put, List.getElem_toArray, List.getElem_cons_zero, List.getElem_cons_succ, List.setIfInBounds_toArray, List.set_cons_zero, List.set_cons_succ]
    refine wpAnyH_take (i := 4) (v := ?_) rfl (by kernel_rfl) (by kernel_rfl) (by kernel_rfl) (fun _ _ _ h => h) (Or.inl ⟨by rfl, ?_⟩) (by assumption) ?_
    rotate_left
    · intro w hSw
      go_simp
      try with_reducible rfl
    simp only [Act.put, List.getElem_toArray, List.getElem_cons_zero, List.getElem_cons_succ, List.setIfInBounds_toArray, List.set_cons_zero, List.set_cons_succ]
    refine wpAnyH_take (i := 5) (v := ?_) rfl (by kernel_rfl) (by kernel_rfl) (by kernel_rfl) (fun _ _ _ h => h) (Or.inl ⟨by rfl, ?_⟩) (by assumption) ?_
    rotate_left
    · intro w hSw
      go_simp
      try with_reducible rfl
    simp only [Act.put, List.getElem_toArray, List.getElem_cons_zero, List.getElem_cons_succ, List.setIfInBounds_toArray, List.set_cons_zero, List.set_cons_succ]
    refine wpAnyH_take (i := 6) (v := ?_) rfl (by kernel_rfl) (by kernel_rfl) (by kernel_rfl) (fun _ _ _ h => h) (Or.inl ⟨by rfl, ?_⟩) (by assumption) ?_
    rotate_left
    · intro w hSw
      go_simp
      try with_reducible rfl
    simp only [Act.put, List.getElem_toArray, List.getElem_cons_zero, List.getElem_cons_succ, List.setIfInBounds_toArray, List.set_cons_zero, List.set_cons_succ]
    refine wpAnyH_take (i := 7) (v := ?_) rfl (by kernel_rfl) (by kernel_rfl) (by kernel_rfl) (fun _ _ _ h => h) (Or.inl ⟨by rfl, ?_⟩) (by assumption) ?_
    rotate_left
    · intro w hSw
      go_simp
      try with_reducible rfl
    simp only [Act.put, List.getElem_toArray, List.getElem_cons_zero, List.getElem_cons_succ, List.setIfInBounds_toArray, List.set_cons_zero, List.set_cons_succ]
    refine wpAnyH_ready (rs := [8, 9]) (by kernel_rfl) (by simp) ?_
    refine AllReadyH.cons rfl (fun K hK => ?_) (AllReadyH.cons rfl (fun K hK => ?_) AllReadyH.nil)
    · go_simp
      refine (CL'.out _ _ G.out.drew.st.tobj G.out.drew.st.cnt G.out.drew.st.stay).mono ?_
      rintro e w9 ⟨rfl, bc, kk⟩
      refine hK.out _ _ (nodePlM ((G.out.drew.on HC.out kk bc).st.stay _ _ HN.out)) (fun hHeld => ?_)
      clear hK K
      have G1 := aside (G.out.drew.on HC.out kk bc)
      clear bc kk
      obtain ⟨s0, s1, z0, z1⟩ := duo G1.out.sm
      refine wpAnyH_ready (rs := [9]) (by kernel_rfl) (by simp) ?_
      refine AllReadyH.cons rfl (fun K hK => ?_) AllReadyH.nil
      go_simp
      refine hK.out _ _ (hHeld) (fun hHeld => ?_)
      clear hK K 
      clear s0 s1 z0 z1
      refine wpAnyH_ready (rs := [10]) (by kernel_rfl) (by simp) ?_
      refine AllReadyH.cons rfl (fun K hK => ?_) AllReadyH.nil
      go_simp
      refine (HB _ tb (n + cl) root yl s G1.out.st.tobj G1.out.st.cnt hzl).mono ?_
      rintro e w9 ⟨rfl, bc, kk⟩
      refine hK.out _ _ (nodePlM ((G1.out.on HC.out kk bc).st.stay _ _ HN.out)) (fun hHeld => ?_)
      clear hK K 
      have G1b := aside (G1.out.on HC.out kk bc)
      obtain ⟨s0, s1, z0, z1⟩ := duo G1b.out.sm
      clear bc kk
      refine wpAnyH_ready (rs := [11]) (by kernel_rfl) (by simp) ?_
      refine AllReadyH.cons rfl (fun K hK => ?_) AllReadyH.nil
      go_simp
      refine hK.out _ _ (nodePlM ((G1b.out.set HC.out (mJoin yl s)).st.stay _ _ HN.out)) (fun hHeld => ?_)
      clear hK K 
      have G1c := aside (G1b.out.set HC.out (mJoin yl s))
      clear hHeld s0 s1 z0 z1 G1b
      unfold set2 at G1c
      refine wpAnyH_done (by kernel_rfl) ?_ _
      generalize (w9.setCell ⟨w.heap.size + 1, 0, none⟩ (.int .u64 (mJoin yl s).a)).setCell ⟨w.heap.size + 1, 1, none⟩ (.int .u64 (mJoin yl s).b) = V1 at *
      go_wp2_with fail
      refine wp_region_held_drew (S := fun X => X.cell? ⟨b, 5, none⟩ = some (.pointer rp)) (by kernel_rfl) (nodePrM (G1c.out.drew.st.stay _ _ HN.out)) (fun hHeld => ?_)
      refine wpAnyH_take (i := 0) (v := ?_) rfl (by kernel_rfl) (by kernel_rfl) (by kernel_rfl) (fun _ _ _ h => h) (Or.inl ⟨by rfl, ?_⟩) (by assumption) ?_
      rotate_left
      · intro w hSw
        go_simp
        try with_reducible rfl
      simp only [Act.put, List.getElem_toArray, List.getElem_cons_zero, List.setIfInBounds_toArray, List.set_cons_zero, List.set_cons_succ]
      refine wpAnyH_take (i := 2) (v := ?_) rfl (by kernel_rfl) (by kernel_rfl) (by kernel_rfl) (fun _ _ _ h => h) (Or.inl ⟨by rfl, ?_⟩) (by assumption) ?_
      rotate_left
      · intro w hSw
        go_simp
        try with_reducible rfl
      simp only [Act.put, List.getElem_toArray, List.getElem_cons_zero, List.getElem_cons_succ, List.setIfInBounds_toArray, List.set_cons_zero, List.set_cons_succ]
      refine wpAnyH_take (i := 3) (v := ?_) rfl (by kernel_rfl) (by kernel_rfl) (by kernel_rfl) (fun _ _ _ h => h) (Or.inl ⟨by rfl, ?_⟩) (by assumption) ?_
      rotate_left
      · intro w hSw
        go_simp
        try with_reducible rfl
      simp only [Act.put, List.getElem_toArray, List.getElem_cons_zero, List.getElem_cons_succ, List.setIfInBounds_toArray, List.set_cons_zero, List.set_cons_succ]
      refine wpAnyH_take (i := 4) (v := ?_) rfl (by kernel_rfl) (by kernel_rfl) (by kernel_rfl) (fun _ _ _ h => h) (Or.inl ⟨by rfl, ?_⟩) (by assumption) ?_
      rotate_left
      · intro w hSw
        go_simp
        try with_reducible rfl
      simp only [Act.put, List.getElem_toArray, List.getElem_cons_zero, List.getElem_cons_succ, List.setIfInBounds_toArray, List.set_cons_zero, List.set_cons_succ]
      refine wpAnyH_take (i := 5) (v := ?_) rfl (by kernel_rfl) (by kernel_rfl) (by kernel_rfl) (fun _ _ _ h => h) (Or.inl ⟨by rfl, ?_⟩) (by assumption) ?_
      rotate_left
      · intro w hSw
        go_simp
        try with_reducible rfl
      simp only [Act.put, List.getElem_toArray, List.getElem_cons_zero, List.getElem_cons_succ, List.setIfInBounds_toArray, List.set_cons_zero, List.set_cons_succ]
      refine wpAnyH_take (i := 6) (v := ?_) rfl (by kernel_rfl) (by kernel_rfl) (by kernel_rfl) (fun _ _ _ h => h) (Or.inl ⟨by rfl, ?_⟩) (by assumption) ?_
      rotate_left
      · intro w hSw
        go_simp
        try with_reducible rfl
      simp only [Act.put, List.getElem_toArray, List.getElem_cons_zero, List.getElem_cons_succ, List.setIfInBounds_toArray, List.set_cons_zero, List.set_cons_succ]
      refine wpAnyH_take (i := 7) (v := ?_) rfl (by kernel_rfl) (by kernel_rfl) (by kernel_rfl) (fun _ _ _ h => h) (Or.inl ⟨by rfl, ?_⟩) (by assumption) ?_
      rotate_left
      · intro w hSw
        go_simp
        try with_reducible rfl
      simp only [Act.put, List.getElem_toArray, List.getElem_cons_zero, List.getElem_cons_succ, List.setIfInBounds_toArray, List.set_cons_zero, List.set_cons_succ]
      refine wpAnyH_take (i := 8) (v := ?_) rfl (by kernel_rfl) (by kernel_rfl) (by kernel_rfl) (fun _ _ _ h => h) (Or.inl ⟨by rfl, ?_⟩) (by assumption) ?_
      rotate_left
      · intro w hSw
        go_simp
        try with_reducible rfl
      simp only [Act.put, List.getElem_toArray, List.getElem_cons_zero, List.getElem_cons_succ, List.setIfInBounds_toArray, List.set_cons_zero, List.set_cons_succ]
      refine wpAnyH_take (i := 9) (v := ?_) rfl (by kernel_rfl) (by kernel_rfl) (by kernel_rfl) (fun _ _ _ h => h) (Or.inl ⟨by rfl, ?_⟩) (by assumption) ?_
      rotate_left
      · intro w hSw
        go_simp
        try with_reducible rfl
      simp only [Act.put, List.getElem_toArray, List.getElem_cons_zero, List.getElem_cons_succ, List.setIfInBounds_toArray, List.set_cons_zero, List.set_cons_succ]
      refine wpAnyH_take (i := 10) (v := ?_) rfl (by kernel_rfl) (by kernel_rfl) (by kernel_rfl) (fun _ _ _ h => h) (Or.inl ⟨by rfl, ?_⟩) (by assumption) ?_
      rotate_left
      · intro w hSw
        go_simp
        try with_reducible rfl
      simp only [Act.put, List.getElem_toArray, List.getElem_cons_zero, List.getElem_cons_succ, List.setIfInBounds_toArray, List.set_cons_zero, List.set_cons_succ]
      refine wpAnyH_ready (rs := [1, 11]) (by kernel_rfl) (by simp) ?_
      refine AllReadyH.cons rfl (fun K hK => ?_) (AllReadyH.cons rfl (fun K hK => ?_) AllReadyH.nil)
      · obtain ⟨s0, s1, z0, z1⟩ := duo G1c.out.drew.sm
        go_simp
        refine hK.out _ _ hHeld (fun hHeld => ?_)
        clear hK K s0 s1 z0 z1
        refine wpAnyH_ready (rs := [11]) (by kernel_rfl) (by simp) ?_
        refine AllReadyH.cons rfl (fun K hK => ?_) AllReadyH.nil
        go_simp
        refine (CR'.out _ _ G1c.out.drew.st.tobj G1c.out.drew.st.cnt G1c.out.drew.st.stay).mono ?_
        rintro e w9 ⟨rfl, bc, kk⟩
        refine hK.out _ _ (nodePrM ((G1c.out.drew.on HC.out kk bc).st.stay _ _ HN.out)) (fun hHeld => ?_)
        clear hK K 
        have G1cx := aside (G1c.out.drew.on HC.out kk bc)
        clear bc kk
        refine wpAnyH_ready (rs := [12]) (by kernel_rfl) (by simp) ?_
        refine AllReadyH.cons rfl (fun K hK => ?_) AllReadyH.nil
        go_simp
        refine (HB _ tb ((n + cl + 1) + cr) root (mJoin yl s) yr G1cx.out.st.tobj G1cx.out.st.cnt hzr).mono ?_
        rintro e w9 ⟨rfl, bc, kk⟩
        refine hK.out _ _ (nodePrM ((G1cx.out.on HC.out kk bc).st.stay _ _ HN.out)) (fun hHeld => ?_)
        clear hK K 
        have G1cxb := aside (G1cx.out.on HC.out kk bc)
        obtain ⟨s0, s1, z0, z1⟩ := duo G1cxb.out.sm
        clear bc kk
        refine wpAnyH_ready (rs := [13]) (by kernel_rfl) (by simp) ?_
        refine AllReadyH.cons rfl (fun K hK => ?_) AllReadyH.nil
        go_simp
        refine hK.out _ _ (nodePrM ((G1cxb.out.set HC.out (mJoin (mJoin yl s) yr)).st.stay _ _ HN.out)) (fun hHeld => ?_)
        clear hK K 
        have G1cxc := aside (G1cxb.out.set HC.out (mJoin (mJoin yl s) yr))
        clear hHeld s0 s1 z0 z1 G1cxb
        unfold set2 at G1cxc
        refine wpAnyH_done (by kernel_rfl) ?_ _
        generalize (w9.setCell ⟨w.heap.size + 1, 0, none⟩ (.int .u64 (mJoin (mJoin yl s) yr).a)).setCell ⟨w.heap.size + 1, 1, none⟩ (.int .u64 (mJoin (mJoin yl s) yr).b) = V2 at *
        obtain ⟨s0, s1, z0, z1⟩ := duo G1cxc.out.sm
        obtain ⟨t0, t1, y0, y1⟩ := duo G1cxc.out.st.res
        have E := aside (set2_end G1cxc.out.st HC.out (mJoin (mJoin yl s) yr))
        unfold set2 at E
        go_wp2
        exact bodyPost_ret (v := .agg #[.int .u64 (mJoin (mJoin yl s) yr).a, .int .u64 (mJoin (mJoin yl s) yr).b]) (by simp [results, Try.results53, go_sem, t0, t1]) rfl ⟨rfl, E.out.1, E.out.2⟩
      · go_simp
        refine (CR'.out _ _ G1c.out.drew.st.tobj G1c.out.drew.st.cnt G1c.out.drew.st.stay).mono ?_
        rintro e w9 ⟨rfl, bc, kk⟩
        refine hK.out _ _ (nodePrM ((G1c.out.drew.on HC.out kk bc).st.stay _ _ HN.out)) (fun hHeld => ?_)
        clear hK K
        have G1cx := aside (G1c.out.drew.on HC.out kk bc)
        clear bc kk
        obtain ⟨s0, s1, z0, z1⟩ := duo G1cx.out.sm
        refine wpAnyH_ready (rs := [1]) (by kernel_rfl) (by simp) ?_
        refine AllReadyH.cons rfl (fun K hK => ?_) AllReadyH.nil
        go_simp
        refine hK.out _ _ (hHeld) (fun hHeld => ?_)
        clear hK K 
        clear s0 s1 z0 z1
        refine wpAnyH_ready (rs := [12]) (by kernel_rfl) (by simp) ?_
        refine AllReadyH.cons rfl (fun K hK => ?_) AllReadyH.nil
        go_simp
        refine (HB _ tb ((n + cl + 1) + cr) root (mJoin yl s) yr G1cx.out.st.tobj G1cx.out.st.cnt hzr).mono ?_
        rintro e w9 ⟨rfl, bc, kk⟩
        refine hK.out _ _ (nodePrM ((G1cx.out.on HC.out kk bc).st.stay _ _ HN.out)) (fun hHeld => ?_)
        clear hK K 
        have G1cxb := aside (G1cx.out.on HC.out kk bc)
        obtain ⟨s0, s1, z0, z1⟩ := duo G1cxb.out.sm
        clear bc kk
        refine wpAnyH_ready (rs := [13]) (by kernel_rfl) (by simp) ?_
        refine AllReadyH.cons rfl (fun K hK => ?_) AllReadyH.nil
        go_simp
        refine hK.out _ _ (nodePrM ((G1cxb.out.set HC.out (mJoin (mJoin yl s) yr)).st.stay _ _ HN.out)) (fun hHeld => ?_)
        clear hK K 
        have G1cxc := aside (G1cxb.out.set HC.out (mJoin (mJoin yl s) yr))
        clear hHeld s0 s1 z0 z1 G1cxb
        unfold set2 at G1cxc
        refine wpAnyH_done (by kernel_rfl) ?_ _
        generalize (w9.setCell ⟨w.heap.size + 1, 0, none⟩ (.int .u64 (mJoin (mJoin yl s) yr).a)).setCell ⟨w.heap.size + 1, 1, none⟩ (.int .u64 (mJoin (mJoin yl s) yr).b) = V2 at *
        obtain ⟨s0, s1, z0, z1⟩ := duo G1cxc.out.sm
        obtain ⟨t0, t1, y0, y1⟩ := duo G1cxc.out.st.res
        have E := aside (set2_end G1cxc.out.st HC.out (mJoin (mJoin yl s) yr))
        unfold set2 at E
        go_wp2
        exact bodyPost_ret (v := .agg #[.int .u64 (mJoin (mJoin yl s) yr).a, .int .u64 (mJoin (mJoin yl s) yr).b]) (by simp [results, Try.results53, go_sem, t0, t1]) rfl ⟨rfl, E.out.1, E.out.2⟩
    · obtain ⟨s0, s1, z0, z1⟩ := duo G.out.drew.sm
      go_simp
      refine hK.out _ _ hHeld (fun hHeld => ?_)
      clear hK K s0 s1 z0 z1
      refine wpAnyH_ready (rs := [8]) (by kernel_rfl) (by simp) ?_
      refine AllReadyH.cons rfl (fun K hK => ?_) AllReadyH.nil
      go_simp
      refine (CL'.out _ _ G.out.drew.st.tobj G.out.drew.st.cnt G.out.drew.st.stay).mono ?_
      rintro e w9 ⟨rfl, bc, kk⟩
      refine hK.out _ _ (nodePlM ((G.out.drew.on HC.out kk bc).st.stay _ _ HN.out)) (fun hHeld => ?_)
      clear hK K 
      have G1 := aside (G.out.drew.on HC.out kk bc)
      clear bc kk
      refine wpAnyH_ready (rs := [10]) (by kernel_rfl) (by simp) ?_
      refine AllReadyH.cons rfl (fun K hK => ?_) AllReadyH.nil
      go_simp
      refine (HB _ tb (n + cl) root yl s G1.out.st.tobj G1.out.st.cnt hzl).mono ?_
      rintro e w9 ⟨rfl, bc, kk⟩
      refine hK.out _ _ (nodePlM ((G1.out.on HC.out kk bc).st.stay _ _ HN.out)) (fun hHeld => ?_)
      clear hK K 
      have G1b := aside (G1.out.on HC.out kk bc)
      obtain ⟨s0, s1, z0, z1⟩ := duo G1b.out.sm
      clear bc kk
      refine wpAnyH_ready (rs := [11]) (by kernel_rfl) (by simp) ?_
      refine AllReadyH.cons rfl (fun K hK => ?_) AllReadyH.nil
      go_simp
      refine hK.out _ _ (nodePlM ((G1b.out.set HC.out (mJoin yl s)).st.stay _ _ HN.out)) (fun hHeld => ?_)
      clear hK K 
      have G1c := aside (G1b.out.set HC.out (mJoin yl s))
      clear hHeld s0 s1 z0 z1 G1b
      unfold set2 at G1c
      refine wpAnyH_done (by kernel_rfl) ?_ _
      generalize (w9.setCell ⟨w.heap.size + 1, 0, none⟩ (.int .u64 (mJoin yl s).a)).setCell ⟨w.heap.size + 1, 1, none⟩ (.int .u64 (mJoin yl s).b) = V1 at *
      go_wp2_with fail
      refine wp_region_held_drew (S := fun X => X.cell? ⟨b, 5, none⟩ = some (.pointer rp)) (by kernel_rfl) (nodePrM (G1c.out.drew.st.stay _ _ HN.out)) (fun hHeld => ?_)
      refine wpAnyH_take (i := 0) (v := ?_) rfl (by kernel_rfl) (by kernel_rfl) (by kernel_rfl) (fun _ _ _ h => h) (Or.inl ⟨by rfl, ?_⟩) (by assumption) ?_
      rotate_left
      · intro w hSw
        go_simp
        try with_reducible rfl
      simp only [Act.put, List.getElem_toArray, List.getElem_cons_zero, List.setIfInBounds_toArray, List.set_cons_zero, List.set_cons_succ]
      refine wpAnyH_take (i := 2) (v := ?_) rfl (by kernel_rfl) (by kernel_rfl) (by kernel_rfl) (fun _ _ _ h => h) (Or.inl ⟨by rfl, ?_⟩) (by assumption) ?_
      rotate_left
      · intro w hSw
        go_simp
        try with_reducible rfl
      simp only [Act.put, List.getElem_toArray, List.getElem_cons_zero, List.getElem_cons_succ, List.setIfInBounds_toArray, List.set_cons_zero, List.set_cons_succ]
      refine wpAnyH_take (i := 3) (v := ?_) rfl (by kernel_rfl) (by kernel_rfl) (by kernel_rfl) (fun _ _ _ h => h) (Or.inl ⟨by rfl, ?_⟩) (by assumption) ?_
      rotate_left
      · intro w hSw
        go_simp
        try with_reducible rfl
      simp only [Act.put, List.getElem_toArray, List.getElem_cons_zero, List.getElem_cons_succ, List.setIfInBounds_toArray, List.set_cons_zero, List.set_cons_succ]
      refine wpAnyH_take (i := 4) (v := ?_) rfl (by kernel_rfl) (by kernel_rfl) (by kernel_rfl) (fun _ _ _ h => h) (Or.inl ⟨by rfl, ?_⟩) (by assumption) ?_
      rotate_left
      · intro w hSw
        go_simp
        try with_reducible rfl
      simp only [Act.put, List.getElem_toArray, List.getElem_cons_zero, List.getElem_cons_succ, List.setIfInBounds_toArray, List.set_cons_zero, List.set_cons_succ]
      refine wpAnyH_take (i := 5) (v := ?_) rfl (by kernel_rfl) (by kernel_rfl) (by kernel_rfl) (fun _ _ _ h => h) (Or.inl ⟨by rfl, ?_⟩) (by assumption) ?_
      rotate_left
      · intro w hSw
        go_simp
        try with_reducible rfl
      simp only [Act.put, List.getElem_toArray, List.getElem_cons_zero, List.getElem_cons_succ, List.setIfInBounds_toArray, List.set_cons_zero, List.set_cons_succ]
      refine wpAnyH_take (i := 6) (v := ?_) rfl (by kernel_rfl) (by kernel_rfl) (by kernel_rfl) (fun _ _ _ h => h) (Or.inl ⟨by rfl, ?_⟩) (by assumption) ?_
      rotate_left
      · intro w hSw
        go_simp
        try with_reducible rfl
      simp only [Act.put, List.getElem_toArray, List.getElem_cons_zero, List.getElem_cons_succ, List.setIfInBounds_toArray, List.set_cons_zero, List.set_cons_succ]
      refine wpAnyH_take (i := 7) (v := ?_) rfl (by kernel_rfl) (by kernel_rfl) (by kernel_rfl) (fun _ _ _ h => h) (Or.inl ⟨by rfl, ?_⟩) (by assumption) ?_
      rotate_left
      · intro w hSw
        go_simp
        try with_reducible rfl
      simp only [Act.put, List.getElem_toArray, List.getElem_cons_zero, List.getElem_cons_succ, List.setIfInBounds_toArray, List.set_cons_zero, List.set_cons_succ]
      refine wpAnyH_take (i := 8) (v := ?_) rfl (by kernel_rfl) (by kernel_rfl) (by kernel_rfl) (fun _ _ _ h => h) (Or.inl ⟨by rfl, ?_⟩) (by assumption) ?_
      rotate_left
      · intro w hSw
        go_simp
        try with_reducible rfl
      simp only [Act.put, List.getElem_toArray, List.getElem_cons_zero, List.getElem_cons_succ, List.setIfInBounds_toArray, List.set_cons_zero, List.set_cons_succ]
      refine wpAnyH_take (i := 9) (v := ?_) rfl (by kernel_rfl) (by kernel_rfl) (by kernel_rfl) (fun _ _ _ h => h) (Or.inl ⟨by rfl, ?_⟩) (by assumption) ?_
      rotate_left
      · intro w hSw
        go_simp
        try with_reducible rfl
      simp only [Act.put, List.getElem_toArray, List.getElem_cons_zero, List.getElem_cons_succ, List.setIfInBounds_toArray, List.set_cons_zero, List.set_cons_succ]
      refine wpAnyH_take (i := 10) (v := ?_) rfl (by kernel_rfl) (by kernel_rfl) (by kernel_rfl) (fun _ _ _ h => h) (Or.inl ⟨by rfl, ?_⟩) (by assumption) ?_
      rotate_left
      · intro w hSw
        go_simp
        try with_reducible rfl
      simp only [Act.put, List.getElem_toArray, List.getElem_cons_zero, List.getElem_cons_succ, List.setIfInBounds_toArray, List.set_cons_zero, List.set_cons_succ]
      refine wpAnyH_ready (rs := [1, 11]) (by kernel_rfl) (by simp) ?_
      refine AllReadyH.cons rfl (fun K hK => ?_) (AllReadyH.cons rfl (fun K hK => ?_) AllReadyH.nil)
      · obtain ⟨s0, s1, z0, z1⟩ := duo G1c.out.drew.sm
        go_simp
        refine hK.out _ _ hHeld (fun hHeld => ?_)
        clear hK K s0 s1 z0 z1
        refine wpAnyH_ready (rs := [11]) (by kernel_rfl) (by simp) ?_
        refine AllReadyH.cons rfl (fun K hK => ?_) AllReadyH.nil
        go_simp
        refine (CR'.out _ _ G1c.out.drew.st.tobj G1c.out.drew.st.cnt G1c.out.drew.st.stay).mono ?_
        rintro e w9 ⟨rfl, bc, kk⟩
        refine hK.out _ _ (nodePrM ((G1c.out.drew.on HC.out kk bc).st.stay _ _ HN.out)) (fun hHeld => ?_)
        clear hK K 
        have G1cx := aside (G1c.out.drew.on HC.out kk bc)
        clear bc kk
        refine wpAnyH_ready (rs := [12]) (by kernel_rfl) (by simp) ?_
        refine AllReadyH.cons rfl (fun K hK => ?_) AllReadyH.nil
        go_simp
        refine (HB _ tb ((n + cl + 1) + cr) root (mJoin yl s) yr G1cx.out.st.tobj G1cx.out.st.cnt hzr).mono ?_
        rintro e w9 ⟨rfl, bc, kk⟩
        refine hK.out _ _ (nodePrM ((G1cx.out.on HC.out kk bc).st.stay _ _ HN.out)) (fun hHeld => ?_)
        clear hK K 
        have G1cxb := aside (G1cx.out.on HC.out kk bc)
        obtain ⟨s0, s1, z0, z1⟩ := duo G1cxb.out.sm
        clear bc kk
        refine wpAnyH_ready (rs := [13]) (by kernel_rfl) (by simp) ?_
        refine AllReadyH.cons rfl (fun K hK => ?_) AllReadyH.nil
        go_simp
        refine hK.out _ _ (nodePrM ((G1cxb.out.set HC.out (mJoin (mJoin yl s) yr)).st.stay _ _ HN.out)) (fun hHeld => ?_)
        clear hK K 
        have G1cxc := aside (G1cxb.out.set HC.out (mJoin (mJoin yl s) yr))
        clear hHeld s0 s1 z0 z1 G1cxb
        unfold set2 at G1cxc
        refine wpAnyH_done (by kernel_rfl) ?_ _
        generalize (w9.setCell ⟨w.heap.size + 1, 0, none⟩ (.int .u64 (mJoin (mJoin yl s) yr).a)).setCell ⟨w.heap.size + 1, 1, none⟩ (.int .u64 (mJoin (mJoin yl s) yr).b) = V2 at *
        obtain ⟨s0, s1, z0, z1⟩ := duo G1cxc.out.sm
        obtain ⟨t0, t1, y0, y1⟩ := duo G1cxc.out.st.res
        have E := aside (set2_end G1cxc.out.st HC.out (mJoin (mJoin yl s) yr))
        unfold set2 at E
        go_wp2
        exact bodyPost_ret (v := .agg #[.int .u64 (mJoin (mJoin yl s) yr).a, .int .u64 (mJoin (mJoin yl s) yr).b]) (by simp [results, Try.results53, go_sem, t0, t1]) rfl ⟨rfl, E.out.1, E.out.2⟩
      · go_simp
        refine (CR'.out _ _ G1c.out.drew.st.tobj G1c.out.drew.st.cnt G1c.out.drew.st.stay).mono ?_
        rintro e w9 ⟨rfl, bc, kk⟩
        refine hK.out _ _ (nodePrM ((G1c.out.drew.on HC.out kk bc).st.stay _ _ HN.out)) (fun hHeld => ?_)
        clear hK K
        have G1cx := aside (G1c.out.drew.on HC.out kk bc)
        clear bc kk
        obtain ⟨s0, s1, z0, z1⟩ := duo G1cx.out.sm
        refine wpAnyH_ready (rs := [1]) (by kernel_rfl) (by simp) ?_
        refine AllReadyH.cons rfl (fun K hK => ?_) AllReadyH.nil
        go_simp
        refine hK.out _ _ (hHeld) (fun hHeld => ?_)
        clear hK K 
        clear s0 s1 z0 z1
        refine wpAnyH_ready (rs := [12]) (by kernel_rfl) (by simp) ?_
        refine AllReadyH.cons rfl (fun K hK => ?_) AllReadyH.nil
        go_simp
        refine (HB _ tb ((n + cl + 1) + cr) root (mJoin yl s) yr G1cx.out.st.tobj G1cx.out.st.cnt hzr).mono ?_
        rintro e w9 ⟨rfl, bc, kk⟩
        refine hK.out _ _ (nodePrM ((G1cx.out.on HC.out kk bc).st.stay _ _ HN.out)) (fun hHeld => ?_)
        clear hK K 
        have G1cxb := aside (G1cx.out.on HC.out kk bc)
        obtain ⟨s0, s1, z0, z1⟩ := duo G1cxb.out.sm
        clear bc kk
        refine wpAnyH_ready (rs := [13]) (by kernel_rfl) (by simp) ?_
        refine AllReadyH.cons rfl (fun K hK => ?_) AllReadyH.nil
        go_simp
        refine hK.out _ _ (nodePrM ((G1cxb.out.set HC.out (mJoin (mJoin yl s) yr)).st.stay _ _ HN.out)) (fun hHeld => ?_)
        clear hK K 
        have G1cxc := aside (G1cxb.out.set HC.out (mJoin (mJoin yl s) yr))
        clear hHeld s0 s1 z0 z1 G1cxb
        unfold set2 at G1cxc
        refine wpAnyH_done (by kernel_rfl) ?_ _
        generalize (w9.setCell ⟨w.heap.size + 1, 0, none⟩ (.int .u64 (mJoin (mJoin yl s) yr).a)).setCell ⟨w.heap.size + 1, 1, none⟩ (.int .u64 (mJoin (mJoin yl s) yr).b) = V2 at *
        obtain ⟨s0, s1, z0, z1⟩ := duo G1cxc.out.sm
        obtain ⟨t0, t1, y0, y1⟩ := duo G1cxc.out.st.res
        have E := aside (set2_end G1cxc.out.st HC.out (mJoin (mJoin yl s) yr))
        unfold set2 at E
        go_wp2
        exact bodyPost_ret (v := .agg #[.int .u64 (mJoin (mJoin yl s) yr).a, .int .u64 (mJoin (mJoin yl s) yr).b]) (by simp [results, Try.results53, go_sem, t0, t1]) rfl ⟨rfl, E.out.1, E.out.2⟩

end Go.Proofs.Ytnlmlhoddchgbaa
namespace Go.Proofs.Ytnlmlhoddchgbaa
open Go.RowKit
set_option linter.unusedVariables false

theorem foldM {jv : Value} {c : Option Nat} (HB : BothOkM jv c) : ∀ T : Tr Int Mp, T.wt mSz ≤ 4611686018427387904 → FoldOkM jv c T
  | .nil, _ => fun w tb n i j I J root p _ _ _ _ _ h1 h2 => by simp [Tr.cnt] at h2; omega
  | .node l k v s r, hw => fun w tb n i j I J root p hI hJ ht hc hT h1 h2 => by
    have hL := foldM HB l (by simp only [Tr.wt] at hw; omega)
    have hR := foldM HB r (by simp only [Tr.wt] at hw; omega)
    have hcw := Tr.cnt_le_wt mSz (Tr.node l k v s r)
    obtain ⟨b, lp, rp, rfl, hb, hl, hr⟩ := hT
    have hcn : (Tr.node l k v s r).cnt = l.cnt + 1 + r.cnt := rfl
    by_cases g0 : i = 0 ∧ j = (Tr.node l k v s r).cnt
    · simp only [Tr.fld, Tr.fldC, if_pos g0]
      exact foldAM HB ht hc hb hl hr rfl (by rw [hI, g0.1]; rfl) (by rw [hJ, g0.2]; simp)
    · simp only [Tr.fld, Tr.fldC, if_neg g0]
      have hz : (I == 0) = true → (J == ((Tr.node l k v s r).cnt : Int)) = false := fun e => by
        rw [beq_iff_eq] at e
        rw [beq_eq_false_iff_ne]
        omega
      by_cases g1 : j ≤ l.cnt
      · simp only [if_pos g1]
        exact foldBM HB ht hc hb hl hr rfl (fun W a b d => hL W tb n i j I J root lp hI hJ a b (hl.on d) h1 g1) hz (by omega)
      · simp only [if_neg g1]
        by_cases g2 : l.cnt < i
        · simp only [if_pos g2]
          exact foldCM HB ht hc hb hl hr rfl (fun W a b d => hR W tb n (i - l.cnt - 1) (j - l.cnt - 1) _ _ root rp (by omega) (by omega) a b (hr.on d) (by omega) (by omega)) (by rw [beq_eq_false_iff_ne]; omega) (by omega) (by omega) (by rw [IntKind.wrap_i64]; omega) (by rw [IntKind.wrap_i64]; omega) (by rw [IntKind.wrap_i64]; omega) (by rw [IntKind.wrap_i64]; omega)
        · simp only [if_neg g2]
          have hsl : i < l.cnt → mSz (Tr.fld mJoin mZero l i l.cnt) ≤ l.wt mSz := fun h => Tr.fld_le mSz_le mZero l i l.cnt h (Nat.le_refl _)
          have hsr : l.cnt + 1 < j → mSz (Tr.fld mJoin mZero r 0 (j - l.cnt - 1)) ≤ r.wt mSz := fun h => Tr.fld_le mSz_le mZero r 0 _ (by omega) (by omega)
          have hj2 := mSz_le (Tr.fld mJoin mZero l i l.cnt) s
          have hw2 := hw
          simp only [Tr.wt] at hw2
          by_cases g3 : i < l.cnt
          · by_cases g4 : l.cnt + 1 < j
            · simp only [if_pos g3, if_pos g4]
              refine (foldD11M HB ht hc hb hl rfl (fun W m a b d => hL W tb m i l.cnt I _ root lp hI rfl a b (hl.on d) g3 (Nat.le_refl _)) (by have := hsl g3; omega) (fun W m a b d => hR W tb m 0 (j - l.cnt - 1) _ _ root rp rfl (by omega) a b (hr.on d) (by omega) (by omega)) (by have := hsl g3; have := hsr g4; omega) (by rw [IntKind.wrap_i64]; omega) (by rw [IntKind.wrap_i64]; omega) hz (by omega) (by omega) (by omega) (by rw [IntKind.wrap_i64]; omega) (by omega)).mono fun e w' h => ⟨h.1, ?_, h.2.2⟩
              rw [show n + (Tr.fldC l i l.cnt + 1 + (Tr.fldC r 0 (j - l.cnt - 1) + 1)) = n + Tr.fldC l i l.cnt + 1 + Tr.fldC r 0 (j - l.cnt - 1) + 1 from by omega]
              exact h.2.1
            · simp only [if_pos g3, if_neg g4]
              exact foldD10M HB ht hc hb hl rfl (fun W m a b d => hL W tb m i l.cnt I _ root lp hI rfl a b (hl.on d) g3 (Nat.le_refl _)) (by have := hsl g3; omega) hz (by omega) (by omega) (by omega) (by rw [IntKind.wrap_i64]; omega) (by omega)
          · by_cases g4 : l.cnt + 1 < j
            · simp only [if_neg g3, if_pos g4]
              refine (foldD01M HB ht hc hb hl rfl (fun W m a b d => hR W tb m 0 (j - l.cnt - 1) _ _ root rp rfl (by omega) a b (hr.on d) (by omega) (by omega)) (by have := hsr g4; omega) (by rw [IntKind.wrap_i64]; omega) (by rw [IntKind.wrap_i64]; omega) hz (by omega) (by omega) (by omega) (by rw [IntKind.wrap_i64]; omega) (by omega)).mono fun e w' h => ⟨h.1, ?_, h.2.2⟩
              rw [show n + (0 + (Tr.fldC r 0 (j - l.cnt - 1) + 1)) = n + Tr.fldC r 0 (j - l.cnt - 1) + 1 from by omega]
              exact h.2.1
            · simp only [if_neg g3, if_neg g4]
              exact foldD00M HB ht hc hb hl rfl hz (by omega) (by omega) (by omega) (by rw [IntKind.wrap_i64]; omega) (by omega)

end Go.Proofs.Ytnlmlhoddchgbaa
namespace Go.Proofs.Ytnlmlhoddchgbaa
open Go.RowKit
set_option linter.unusedVariables false

set_option maxHeartbeats 6400000 in
set_option maxRecDepth 100000 in
theorem foldsM {jv : Value} {c : Option Nat} (HB : BothOkM jv c) {w : World} {tb n : Nat} {p0 : Option Addr} {T : Tr Int Mp} (I J : Int) (ht : TObjM w tb jv p0) (hc : Cnt c n w) (hT : IsTM w p0 T) (hw : T.wt mSz ≤ 4611686018427387904) :
    Calls Try.prog 18 #[.pointer (some ⟨tb, 0, none⟩), .int .i64 I, .int .i64 J] w fun e w' => e = .returned (.agg #[.int .u64 (Tr.fol mJoin mZero T I J).a, .int .u64 (Tr.fol mJoin mZero T I J).b]) ∧ Cnt c (n + Tr.folC T I J) w' ∧ Keeps (OnC c) w w' := by
  have Fo := aside (foldM HB T hw)
  have F := aside (fstM ht hc)
  have HC := aside hc
  have CL := aside (fun (W : World) (h : TObjM W tb jv p0) (g : Stay 94 w W) => lenM h (hT.on g))
  obtain ⟨c0, c1, -, r0, -⟩ := tobjM F.out.tobj
  obtain ⟨I', hI'⟩ : ∃ x, max I 0 = x := ⟨_, rfl⟩
  obtain ⟨J', hJ'⟩ : ∃ x, min J (T.cnt : Int) = x := ⟨_, rfl⟩
  rw [Tr.fol_eq _ _ _ _ _ hI' hJ', Tr.folC_eq _ _ _ hI' hJ']
  have hnn : (0 : Int) ≤ (T.cnt : Int) := by omega
  have CF := aside (fun (W : World) (m : Nat) (h1 : I' < J') (h : TObjM W tb jv p0) (h2 : Cnt c m W) (g : Stay 94 w W) => Fo.out W tb m I'.toNat J'.toNat I' J' p0 p0 (by omega) (by omega) h h2 (hT.on g) (by omega) (by omega))
  generalize (T.cnt : Int) = nn at *
  have HT := aside hT
  clear ht hc hT hw Fo hnn
  by_cases q0 : I' < J'
  · rw [if_pos q0, if_pos q0]
    have CF' := aside (fun W m => CF.out W m q0)
    clear CF
    generalize Tr.fld mJoin mZero T I'.toNat J'.toNat = fv at *
    by_cases q1 : I < 0
    · have e1 : I' = 0 := by omega
      by_cases q2 : nn < J
      · have e2 : J' = nn := by omega
        subst e1 e2
        clear hI' hJ'
        go_enter Try.func18, Try.ntmps18
        go_wp2_with fail
        refine (CL.out _ F.out.tobj F.out.stay).mono ?_
        rintro e w1 ⟨rfl, rfl⟩
        go_wp2_with fail
        refine (CF'.out _ _ F.out.tobj F.out.cnt F.out.stay).mono ?_
        rintro e w1 ⟨rfl, bc, kk⟩
        have G := aside (F.out.on HC.out kk bc)
        obtain ⟨s0, s1, z0, z1⟩ := duo G.out.res
        have E := aside (set2_end G.out HC.out fv)
        unfold set2 at E
        clear bc kk CF' CL c0 c1 r0 F
        go_wp2
        exact bodyPost_ret (v := .agg #[.int .u64 fv.a, .int .u64 fv.b]) (by simp [results, Try.results18, go_sem, s0, s1]) rfl ⟨rfl, E.out.1, E.out.2⟩
      · have e2 : J' = J := by omega
        subst e1 e2
        clear hI' hJ'
        go_enter Try.func18, Try.ntmps18
        go_wp2_with fail
        refine (CL.out _ F.out.tobj F.out.stay).mono ?_
        rintro e w1 ⟨rfl, rfl⟩
        go_wp2_with fail
        refine (CF'.out _ _ F.out.tobj F.out.cnt F.out.stay).mono ?_
        rintro e w1 ⟨rfl, bc, kk⟩
        have G := aside (F.out.on HC.out kk bc)
        obtain ⟨s0, s1, z0, z1⟩ := duo G.out.res
        have E := aside (set2_end G.out HC.out fv)
        unfold set2 at E
        clear bc kk CF' CL c0 c1 r0 F
        go_wp2
        exact bodyPost_ret (v := .agg #[.int .u64 fv.a, .int .u64 fv.b]) (by simp [results, Try.results18, go_sem, s0, s1]) rfl ⟨rfl, E.out.1, E.out.2⟩
    · have e1 : I' = I := by omega
      by_cases q2 : nn < J
      · have e2 : J' = nn := by omega
        subst e1 e2
        clear hI' hJ'
        go_enter Try.func18, Try.ntmps18
        go_wp2_with fail
        refine (CL.out _ F.out.tobj F.out.stay).mono ?_
        rintro e w1 ⟨rfl, rfl⟩
        go_wp2_with fail
        refine (CF'.out _ _ F.out.tobj F.out.cnt F.out.stay).mono ?_
        rintro e w1 ⟨rfl, bc, kk⟩
        have G := aside (F.out.on HC.out kk bc)
        obtain ⟨s0, s1, z0, z1⟩ := duo G.out.res
        have E := aside (set2_end G.out HC.out fv)
        unfold set2 at E
        clear bc kk CF' CL c0 c1 r0 F
        go_wp2
        exact bodyPost_ret (v := .agg #[.int .u64 fv.a, .int .u64 fv.b]) (by simp [results, Try.results18, go_sem, s0, s1]) rfl ⟨rfl, E.out.1, E.out.2⟩
      · have e2 : J' = J := by omega
        subst e1 e2
        clear hI' hJ'
        go_enter Try.func18, Try.ntmps18
        go_wp2_with fail
        refine (CL.out _ F.out.tobj F.out.stay).mono ?_
        rintro e w1 ⟨rfl, rfl⟩
        go_wp2_with fail
        refine (CF'.out _ _ F.out.tobj F.out.cnt F.out.stay).mono ?_
        rintro e w1 ⟨rfl, bc, kk⟩
        have G := aside (F.out.on HC.out kk bc)
        obtain ⟨s0, s1, z0, z1⟩ := duo G.out.res
        have E := aside (set2_end G.out HC.out fv)
        unfold set2 at E
        clear bc kk CF' CL c0 c1 r0 F
        go_wp2
        exact bodyPost_ret (v := .agg #[.int .u64 fv.a, .int .u64 fv.b]) (by simp [results, Try.results18, go_sem, s0, s1]) rfl ⟨rfl, E.out.1, E.out.2⟩
  · rw [if_neg q0, if_neg q0]
    clear CF
    by_cases q1 : I < 0
    · have e1 : I' = 0 := by omega
      by_cases q2 : nn < J
      · have e2 : J' = nn := by omega
        subst e1 e2
        clear hI' hJ'
        go_enter Try.func18, Try.ntmps18
        go_wp2_with fail
        refine (CL.out _ F.out.tobj F.out.stay).mono ?_
        rintro e w1 ⟨rfl, rfl⟩
        go_wp2
        exact bodyPost_ret (v := .agg #[.int .u64 1, .int .u64 0]) (by simp [results, Try.results18, go_sem]) rfl ⟨rfl, HC.out.alloc _, (Keeps.refl _ w).alloc _⟩
      · have e2 : J' = J := by omega
        subst e1 e2
        clear hI' hJ'
        go_enter Try.func18, Try.ntmps18
        go_wp2_with fail
        refine (CL.out _ F.out.tobj F.out.stay).mono ?_
        rintro e w1 ⟨rfl, rfl⟩
        go_wp2
        exact bodyPost_ret (v := .agg #[.int .u64 1, .int .u64 0]) (by simp [results, Try.results18, go_sem]) rfl ⟨rfl, HC.out.alloc _, (Keeps.refl _ w).alloc _⟩
    · have e1 : I' = I := by omega
      by_cases q2 : nn < J
      · have e2 : J' = nn := by omega
        subst e1 e2
        clear hI' hJ'
        go_enter Try.func18, Try.ntmps18
        go_wp2_with fail
        refine (CL.out _ F.out.tobj F.out.stay).mono ?_
        rintro e w1 ⟨rfl, rfl⟩
        go_wp2
        exact bodyPost_ret (v := .agg #[.int .u64 1, .int .u64 0]) (by simp [results, Try.results18, go_sem]) rfl ⟨rfl, HC.out.alloc _, (Keeps.refl _ w).alloc _⟩
      · have e2 : J' = J := by omega
        subst e1 e2
        clear hI' hJ'
        go_enter Try.func18, Try.ntmps18
        go_wp2_with fail
        refine (CL.out _ F.out.tobj F.out.stay).mono ?_
        rintro e w1 ⟨rfl, rfl⟩
        go_wp2
        exact bodyPost_ret (v := .agg #[.int .u64 1, .int .u64 0]) (by simp [results, Try.results18, go_sem]) rfl ⟨rfl, HC.out.alloc _, (Keeps.refl _ w).alloc _⟩

end Go.Proofs.Ytnlmlhoddchgbaa

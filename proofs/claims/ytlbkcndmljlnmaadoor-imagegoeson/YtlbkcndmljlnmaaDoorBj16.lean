/-
  fold (E): its contract, what it lays.
  fold (E), the first cases.
  fold (E), a case.
  fold (E), a case.
-/
import Derived.Test.YtlbkcndmljlnmaaDoorBj8
import Derived.Test.YtlbkcndmljlnmaaDoorBj15
namespace Go.Proofs.YtlbkcndmljlnmaaDoor
open Go.RowKit
set_option linter.unusedVariables false
/-- fold answers as the plain function says, and counts so. -/
def FoldOkE (jv : Value) (c : Option Nat) (T : Tr En Tl) : Prop :=
  ∀ (w : World) (tb n i j : Nat) (I J : Int) (root p : Option Addr), I = (i : Int) → J = (j : Int) → TObjE w tb jv root → CntE c n w → IsTE w p T → i < j → j ≤ T.cnt →
    Calls Tryd.prog 99 #[.pointer (some ⟨tb, 0, none⟩), .pointer p, .int .i64 I, .int .i64 J] w fun e w' => e = .returned (.agg #[.int .i64 (Tr.fld tJoin tZero T i j).n, .int .u64 (Tr.fld tJoin tZero T i j).a, .int .u64 (Tr.fld tJoin tZero T i j).b]) ∧ CntE c (n + Tr.fldC T i j) w' ∧ Keeps (OnC c) w w'
structure FStE (w V : World) (tb n : Nat) (jv : Value) (root : Option Addr) (c : Option Nat) : Prop where
  keeps : Keeps (OnC c) w V
  cnt : CntE c n V
  tobj : TObjE V tb jv root
  stay : Stay 145 w V
  res : V.heap[w.heap.size]? = some (.cells #[.int .i64 0, .int .u64 0, .int .u64 0] 97 (0, 0))
theorem FStE.drew {w V : World} {tb n : Nat} {jv : Value} {root : Option Addr} {c : Option Nat} (h : FStE w V tb n jv root c) : FStE w V.drew tb n jv root c := ⟨h.keeps.drew, h.cnt.drew, h.tobj, h.stay.drew, h.res⟩
theorem FStE.on {w V : World} {tb n : Nat} {jv : Value} {root : Option Addr} {c : Option Nat} {V' : World} {m n0 : Nat} (h : FStE w V tb n jv root c) (h0 : CntE c n0 w) (kk : Keeps (OnC c) V V') (hm : CntE c m V') : FStE w V' tb m jv root c :=
  ⟨h.keeps.trans kk, hm, h.tobj.onC h.cnt kk, h.stay.onE h.cnt kk (by decide), blk_keep h.res kk (h0.lt (by omega))⟩
theorem FStE.alloc {w V : World} {tb n : Nat} {jv : Value} {root : Option Addr} {c : Option Nat} (h : FStE w V tb n jv root c) (o : Obj) : FStE w (V.alloc o) tb n jv root c := by
  refine ⟨h.keeps.alloc _, h.cnt.alloc _, ?_, h.stay.alloc _, blk_on h.res (bnew _ _)⟩
  have ht := h.tobj
  unfold TObjE at ht ⊢
  exact blk_on ht (bnew _ _)
theorem fstE {w : World} {tb n : Nat} {jv : Value} {root : Option Addr} {c : Option Nat} (ht : TObjE w tb jv root) (hc : CntE c n w) : FStE w (w.alloc (.cells #[.int .i64 0, .int .u64 0, .int .u64 0] 97)) tb n jv root c := by
  refine ⟨(Keeps.refl _ w).alloc _, hc.alloc _, ?_, (Stay.refl _ w).alloc _, heap_alloc_new w _⟩
  unfold TObjE at ht ⊢
  exact blk_on ht (bnew _ _)
/-- The sum's own place beside. -/
structure F2StE (w V : World) (tb n : Nat) (jv : Value) (root : Option Addr) (c : Option Nat) (x : Tl) : Prop where
  st : FStE w V tb n jv root c
  sm : V.heap[w.heap.size + 1]? = some (.cells #[.int .i64 x.n, .int .u64 x.a, .int .u64 x.b] 97 (0, 0))
theorem F2StE.drew {w V : World} {tb n : Nat} {jv : Value} {root : Option Addr} {c : Option Nat} {x : Tl} (h : F2StE w V tb n jv root c x) : F2StE w V.drew tb n jv root c x := ⟨h.st.drew, h.sm⟩
theorem F2StE.on {w V : World} {tb n : Nat} {jv : Value} {root : Option Addr} {c : Option Nat} {x : Tl} {V' : World} {m n0 : Nat} (h : F2StE w V tb n jv root c x) (h0 : CntE c n0 w) (kk : Keeps (OnC c) V V') (hm : CntE c m V') : F2StE w V' tb m jv root c x :=
  ⟨h.st.on h0 kk hm, blk_keep h.sm kk (h0.lt (by omega))⟩
theorem f2stE {w : World} {tb n : Nat} {jv : Value} {root : Option Addr} {c : Option Nat} (x : Tl) (h : FStE w (w.alloc (.cells #[.int .i64 0, .int .u64 0, .int .u64 0] 97)) tb n jv root c) : F2StE w ((w.alloc (.cells #[.int .i64 0, .int .u64 0, .int .u64 0] 97)).alloc (.cells #[.int .i64 x.n, .int .u64 x.a, .int .u64 x.b] 97)) tb n jv root c x := by
  refine ⟨h.alloc _, ?_⟩
  have h1 := heap_alloc_new (w.alloc (.cells #[.int .i64 0, .int .u64 0, .int .u64 0] 97)) (.cells #[.int .i64 x.n, .int .u64 x.a, .int .u64 x.b] 97)
  simp only [World.size_alloc] at h1
  exact h1
theorem set3_st {w V : World} {tb n : Nat} {jv : Value} {root : Option Addr} {c : Option Nat} {n0 g : Nat} {x x' x'' : Value} (h : FStE w V tb n jv root c) (h0 : CntE c n0 w) (hg : w.heap.size < g) (hb : V.heap[g]? = some (.cells #[x, x', x''] 97 (0, 0))) (y : Tl) : FStE w (set3 V g y) tb n jv root c := by
  refine ⟨h.keeps.set3 (fun e => by omega) y, h.cnt.set3 (h0.lt (by omega)) y, ?_, h.stay.set3 hb (by decide) y, ?_⟩
  · have ht := h.tobj
    unfold TObjE at ht ⊢
    rw [set3_other _ _ _ _ (fun e => by rw [e, hb] at ht; simp at ht)]
    exact ht
  · rw [set3_other _ _ _ _ (by omega)]; exact h.res
theorem F2StE.set {w V : World} {tb n : Nat} {jv : Value} {root : Option Addr} {c : Option Nat} {x : Tl} {n0 : Nat} (h : F2StE w V tb n jv root c x) (h0 : CntE c n0 w) (y : Tl) : F2StE w (set3 V (w.heap.size + 1) y) tb n jv root c y :=
  ⟨set3_st h.st h0 (by omega) h.sm y, set3_same h.sm y⟩
theorem set3_end {w V : World} {tb n : Nat} {jv : Value} {root : Option Addr} {c : Option Nat} {n0 : Nat} (h : FStE w V tb n jv root c) (h0 : CntE c n0 w) (y : Tl) : CntE c n (set3 V w.heap.size y) ∧ Keeps (OnC c) w (set3 V w.heap.size y) :=
  ⟨h.cnt.set3 (h0.lt (Nat.le_refl _)) y, h.keeps.set3 (fun e => by omega) y⟩
end Go.Proofs.YtlbkcndmljlnmaaDoor
namespace Go.Proofs.YtlbkcndmljlnmaaDoor
open Go.RowKit
set_option linter.unusedVariables false
set_option maxHeartbeats 3200000 in
set_option maxRecDepth 100000 in
theorem foldAE {jv : Value} {c : Option Nat} (HB : BothOkE jv c) {w : World} {tb n : Nat} {root : Option Addr} {l r : Tr En Tl} {k : ByteArray} {v : En} {s q : Tl} {b : Nat} {lp rp : Option Addr} {C H I J lc : Int} (ht : TObjE w tb jv root) (hc : CntE c n w) (hb : w.heap[b]? = some (.cells #[.string k, .string v.k, .int .i64 v.c, .int .i64 v.n, .string v.v, .bool v.d, .int .i64 s.n, .int .u64 s.a, .int .u64 s.b, .pointer lp, .pointer rp, .int .i64 C, .int .i64 H, .int .i64 q.n, .int .u64 q.a, .int .u64 q.b] 145 (0, 0))) (hl : IsTE w lp l) (hr : IsTE w rp r) (hlc : (l.cnt : Int) = lc) (hz : (I == 0) = true) (hq : (J == C) = true) : Calls Tryd.prog 99 #[.pointer (some ⟨tb, 0, none⟩), .pointer (some ⟨b, 0, none⟩), .int .i64 I, .int .i64 J] w fun e w' => e = .returned (.agg #[.int .i64 q.n, .int .u64 q.a, .int .u64 q.b]) ∧ CntE c (n + 0) w' ∧ Keeps (OnC c) w w' := by
  have F := aside (fstE ht hc)
  have HC := aside hc
  have HN := aside hb
  have hn := nodeE (F.out.stay _ _ hb)
  obtain ⟨-, -, -, -, -, -, -, -, -, -, -, n11, -, n13, n14, n15⟩ := hn
  have CR := aside (fun (W : World) (h : Stay 145 w W) => hlc ▸ rowsE (hl.on h))
  clear ht hc hb hl hr hlc CR
  go_enter Tryd.func99, Tryd.ntmps99
  go_wp2
  exact bodyPost_ret (v := .agg #[.int .i64 q.n, .int .u64 q.a, .int .u64 q.b]) (by simp [results, Tryd.results99, go_sem]) rfl ⟨rfl, (HC.out.alloc _), ((Keeps.refl _ w).alloc _)⟩
set_option maxHeartbeats 3200000 in
set_option maxRecDepth 100000 in
theorem foldBE {jv : Value} {c : Option Nat} (HB : BothOkE jv c) {w : World} {tb n : Nat} {root : Option Addr} {l r : Tr En Tl} {k : ByteArray} {v : En} {s q : Tl} {b : Nat} {lp rp : Option Addr} {C H I J lc : Int} (ht : TObjE w tb jv root) (hc : CntE c n w) (hb : w.heap[b]? = some (.cells #[.string k, .string v.k, .int .i64 v.c, .int .i64 v.n, .string v.v, .bool v.d, .int .i64 s.n, .int .u64 s.a, .int .u64 s.b, .pointer lp, .pointer rp, .int .i64 C, .int .i64 H, .int .i64 q.n, .int .u64 q.a, .int .u64 q.b] 145 (0, 0))) (hl : IsTE w lp l) (hr : IsTE w rp r) (hlc : (l.cnt : Int) = lc) {y : Tl} {cst : Nat} (CF : ∀ W : World, TObjE W tb jv root → CntE c n W → Stay 145 w W → Calls Tryd.prog 99 #[.pointer (some ⟨tb, 0, none⟩), .pointer lp, .int .i64 I, .int .i64 J] W fun e w' => e = .returned (.agg #[.int .i64 y.n, .int .u64 y.a, .int .u64 y.b]) ∧ CntE c (n + cst) w' ∧ Keeps (OnC c) W w') (hz : (I == 0) = true → (J == C) = false) (h1 : J ≤ lc) : Calls Tryd.prog 99 #[.pointer (some ⟨tb, 0, none⟩), .pointer (some ⟨b, 0, none⟩), .int .i64 I, .int .i64 J] w fun e w' => e = .returned (.agg #[.int .i64 y.n, .int .u64 y.a, .int .u64 y.b]) ∧ CntE c (n + cst) w' ∧ Keeps (OnC c) w w' := by
  have F := aside (fstE ht hc)
  have HC := aside hc
  have HN := aside hb
  have hn := nodeE (F.out.stay _ _ hb)
  obtain ⟨-, -, -, -, -, -, -, -, -, n9, n10, n11, -, -, -, -⟩ := hn
  have CR := aside (fun (W : World) (h : Stay 145 w W) => hlc ▸ rowsE (hl.on h))
  have CF' := aside CF
  clear ht hc hb hl hr hlc CF
  cases hz0 : (I == 0)
  · clear hz
    go_enter Tryd.func99, Tryd.ntmps99
    go_wp2_with fail
    refine (CR.out _ F.out.stay).mono ?_
    rintro e w1 ⟨rfl, rfl⟩
    go_wp2_with fail
    refine (CF'.out _ F.out.tobj F.out.cnt F.out.stay).mono ?_
    rintro e w1 ⟨rfl, bc, kk⟩
    have G := aside (F.out.on HC.out kk bc)
    obtain ⟨s0, s1, s2, z0, z1, z2⟩ := tri G.out.res
    have E := aside (set3_end G.out HC.out y)
    unfold set3 at E
    clear bc kk CF' CR n11 n9 n10 F
    go_wp2
    exact bodyPost_ret (v := .agg #[.int .i64 y.n, .int .u64 y.a, .int .u64 y.b]) (by simp [results, Tryd.results99, go_sem, s0, s1, s2]) rfl ⟨rfl, E.out.1, E.out.2⟩
  · have hz1 := hz hz0
    clear hz
    go_enter Tryd.func99, Tryd.ntmps99
    go_wp2_with fail
    refine (CR.out _ F.out.stay).mono ?_
    rintro e w1 ⟨rfl, rfl⟩
    go_wp2_with fail
    refine (CF'.out _ F.out.tobj F.out.cnt F.out.stay).mono ?_
    rintro e w1 ⟨rfl, bc, kk⟩
    have G := aside (F.out.on HC.out kk bc)
    obtain ⟨s0, s1, s2, z0, z1, z2⟩ := tri G.out.res
    have E := aside (set3_end G.out HC.out y)
    unfold set3 at E
    clear bc kk CF' CR n11 n9 n10 F
    go_wp2
    exact bodyPost_ret (v := .agg #[.int .i64 y.n, .int .u64 y.a, .int .u64 y.b]) (by simp [results, Tryd.results99, go_sem, s0, s1, s2]) rfl ⟨rfl, E.out.1, E.out.2⟩
set_option maxHeartbeats 3200000 in
set_option maxRecDepth 100000 in
theorem foldCE {jv : Value} {c : Option Nat} (HB : BothOkE jv c) {w : World} {tb n : Nat} {root : Option Addr} {l r : Tr En Tl} {k : ByteArray} {v : En} {s q : Tl} {b : Nat} {lp rp : Option Addr} {C H I J lc : Int} (ht : TObjE w tb jv root) (hc : CntE c n w) (hb : w.heap[b]? = some (.cells #[.string k, .string v.k, .int .i64 v.c, .int .i64 v.n, .string v.v, .bool v.d, .int .i64 s.n, .int .u64 s.a, .int .u64 s.b, .pointer lp, .pointer rp, .int .i64 C, .int .i64 H, .int .i64 q.n, .int .u64 q.a, .int .u64 q.b] 145 (0, 0))) (hl : IsTE w lp l) (hr : IsTE w rp r) (hlc : (l.cnt : Int) = lc) {y : Tl} {cst : Nat} (CF : ∀ W : World, TObjE W tb jv root → CntE c n W → Stay 145 w W → Calls Tryd.prog 99 #[.pointer (some ⟨tb, 0, none⟩), .pointer rp, .int .i64 (I - lc - 1), .int .i64 (J - lc - 1)] W fun e w' => e = .returned (.agg #[.int .i64 y.n, .int .u64 y.a, .int .u64 y.b]) ∧ CntE c (n + cst) w' ∧ Keeps (OnC c) W w') (hz0 : (I == 0) = false) (h1 : ¬ J ≤ lc) (h2 : lc < I) (w1 : IntKind.i64.wrap (I - lc) = I - lc) (w2 : IntKind.i64.wrap (I - lc - 1) = I - lc - 1) (w3 : IntKind.i64.wrap (J - lc) = J - lc) (w4 : IntKind.i64.wrap (J - lc - 1) = J - lc - 1) : Calls Tryd.prog 99 #[.pointer (some ⟨tb, 0, none⟩), .pointer (some ⟨b, 0, none⟩), .int .i64 I, .int .i64 J] w fun e w' => e = .returned (.agg #[.int .i64 y.n, .int .u64 y.a, .int .u64 y.b]) ∧ CntE c (n + cst) w' ∧ Keeps (OnC c) w w' := by
  have F := aside (fstE ht hc)
  have HC := aside hc
  have HN := aside hb
  have hn := nodeE (F.out.stay _ _ hb)
  obtain ⟨-, -, -, -, -, -, -, -, -, n9, n10, n11, -, -, -, -⟩ := hn
  have CR := aside (fun (W : World) (h : Stay 145 w W) => hlc ▸ rowsE (hl.on h))
  have CF' := aside CF
  clear ht hc hb hl hr hlc CF
  go_enter Tryd.func99, Tryd.ntmps99
  go_wp2_with fail
  refine (CR.out _ F.out.stay).mono ?_
  rintro e w1 ⟨rfl, rfl⟩
  go_wp2_with fail
  refine (CF'.out _ F.out.tobj F.out.cnt F.out.stay).mono ?_
  rintro e w1 ⟨rfl, bc, kk⟩
  have G := aside (F.out.on HC.out kk bc)
  obtain ⟨s0, s1, s2, z0, z1, z2⟩ := tri G.out.res
  have E := aside (set3_end G.out HC.out y)
  unfold set3 at E
  clear bc kk CF' CR n11 n9 n10 F
  go_wp2
  exact bodyPost_ret (v := .agg #[.int .i64 y.n, .int .u64 y.a, .int .u64 y.b]) (by simp [results, Tryd.results99, go_sem, s0, s1, s2]) rfl ⟨rfl, E.out.1, E.out.2⟩
end Go.Proofs.YtlbkcndmljlnmaaDoor
namespace Go.Proofs.YtlbkcndmljlnmaaDoor
open Go.RowKit
set_option linter.unusedVariables false
set_option maxHeartbeats 6400000 in
set_option maxRecDepth 100000 in
theorem foldD00E {jv : Value} {c : Option Nat} (HB : BothOkE jv c) {w : World} {tb n : Nat} {root : Option Addr} {l : Tr En Tl} {k : ByteArray} {v : En} {s q : Tl} {b : Nat} {lp rp : Option Addr} {C H I J lc : Int} (ht : TObjE w tb jv root) (hc : CntE c n w) (hb : w.heap[b]? = some (.cells #[.string k, .string v.k, .int .i64 v.c, .int .i64 v.n, .string v.v, .bool v.d, .int .i64 s.n, .int .u64 s.a, .int .u64 s.b, .pointer lp, .pointer rp, .int .i64 C, .int .i64 H, .int .i64 q.n, .int .u64 q.a, .int .u64 q.b] 145 (0, 0))) (hl : IsTE w lp l) (hlc : (l.cnt : Int) = lc) (hz : (I == 0) = true → (J == C) = false) (h1 : ¬ J ≤ lc) (h2 : ¬ lc < I) (h3 : ¬ I < lc) (w5 : IntKind.i64.wrap (lc + 1) = lc + 1) (h4 : ¬ lc + 1 < J) : Calls Tryd.prog 99 #[.pointer (some ⟨tb, 0, none⟩), .pointer (some ⟨b, 0, none⟩), .int .i64 I, .int .i64 J] w fun e w' => e = .returned (.agg #[.int .i64 s.n, .int .u64 s.a, .int .u64 s.b]) ∧ CntE c n w' ∧ Keeps (OnC c) w w' := by
  have F := aside (fstE ht hc)
  have HC := aside hc
  have HN := aside hb
  have hn := nodeE (F.out.stay _ _ hb)
  obtain ⟨-, -, -, -, -, -, n6, n7, n8, n9, n10, n11, -, -, -, -⟩ := hn
  have CR := aside (fun (W : World) (h : Stay 145 w W) => hlc ▸ rowsE (hl.on h))
  clear ht hc hb hl hlc
  cases hz0 : (I == 0)
  · clear hz
    go_enter Tryd.func99, Tryd.ntmps99
    go_wp2_with fail
    refine (CR.out _ F.out.stay).mono ?_
    rintro e w1 ⟨rfl, rfl⟩
    go_wp2
    exact bodyPost_ret (v := .agg #[.int .i64 s.n, .int .u64 s.a, .int .u64 s.b]) (by simp [results, Tryd.results99, go_sem]) rfl ⟨rfl, (HC.out.alloc _).alloc _, ((Keeps.refl _ w).alloc _).alloc _⟩
  · have hz1 := hz hz0
    clear hz
    go_enter Tryd.func99, Tryd.ntmps99
    go_wp2_with fail
    refine (CR.out _ F.out.stay).mono ?_
    rintro e w1 ⟨rfl, rfl⟩
    go_wp2
    exact bodyPost_ret (v := .agg #[.int .i64 s.n, .int .u64 s.a, .int .u64 s.b]) (by simp [results, Tryd.results99, go_sem]) rfl ⟨rfl, (HC.out.alloc _).alloc _, ((Keeps.refl _ w).alloc _).alloc _⟩
end Go.Proofs.YtlbkcndmljlnmaaDoor
namespace Go.Proofs.YtlbkcndmljlnmaaDoor
open Go.RowKit
set_option linter.unusedVariables false
set_option maxHeartbeats 6400000 in
set_option maxRecDepth 100000 in
theorem foldD01E {jv : Value} {c : Option Nat} (HB : BothOkE jv c) {w : World} {tb n : Nat} {root : Option Addr} {l : Tr En Tl} {k : ByteArray} {v : En} {s q : Tl} {b : Nat} {lp rp : Option Addr} {C H I J lc : Int} (ht : TObjE w tb jv root) (hc : CntE c n w) (hb : w.heap[b]? = some (.cells #[.string k, .string v.k, .int .i64 v.c, .int .i64 v.n, .string v.v, .bool v.d, .int .i64 s.n, .int .u64 s.a, .int .u64 s.b, .pointer lp, .pointer rp, .int .i64 C, .int .i64 H, .int .i64 q.n, .int .u64 q.a, .int .u64 q.b] 145 (0, 0))) (hl : IsTE w lp l) (hlc : (l.cnt : Int) = lc) {yr : Tl} {cr : Nat} (CFR : ∀ (W : World) (m : Nat), TObjE W tb jv root → CntE c m W → Stay 145 w W → Calls Tryd.prog 99 #[.pointer (some ⟨tb, 0, none⟩), .pointer rp, .int .i64 0, .int .i64 (J - lc - 1)] W fun e w' => e = .returned (.agg #[.int .i64 yr.n, .int .u64 yr.a, .int .u64 yr.b]) ∧ CntE c (m + cr) w' ∧ Keeps (OnC c) W w') (hzr : tSz s + tSz yr ≤ 4611686018427387904) (w3 : IntKind.i64.wrap (J - lc) = J - lc) (w4 : IntKind.i64.wrap (J - lc - 1) = J - lc - 1) (hz : (I == 0) = true → (J == C) = false) (h1 : ¬ J ≤ lc) (h2 : ¬ lc < I) (h3 : ¬ I < lc) (w5 : IntKind.i64.wrap (lc + 1) = lc + 1) (h4 : lc + 1 < J) : Calls Tryd.prog 99 #[.pointer (some ⟨tb, 0, none⟩), .pointer (some ⟨b, 0, none⟩), .int .i64 I, .int .i64 J] w fun e w' => e = .returned (.agg #[.int .i64 (tJoin s yr).n, .int .u64 (tJoin s yr).a, .int .u64 (tJoin s yr).b]) ∧ CntE c (n + cr + 1) w' ∧ Keeps (OnC c) w w' := by
  have F := aside (fstE ht hc)
  have HC := aside hc
  have HN := aside hb
  have hn := nodeE (F.out.stay _ _ hb)
  obtain ⟨-, -, -, -, -, -, n6, n7, n8, n9, n10, n11, -, -, -, -⟩ := hn
  have CR := aside (fun (W : World) (h : Stay 145 w W) => hlc ▸ rowsE (hl.on h))
  have CR' := aside CFR
  clear CFR
  clear ht hc hb hl hlc
  cases hz0 : (I == 0)
  · clear hz
    go_enter Tryd.func99, Tryd.ntmps99
    go_wp2_with fail
    refine (CR.out _ F.out.stay).mono ?_
    rintro e w1 ⟨rfl, rfl⟩
    have G := aside (f2stE s F.out)
    go_wp2_with fail
    clear n11 n9 n10 n6 n7 n8 CR
    clear F
    generalize (w.alloc (.cells #[.int .i64 0, .int .u64 0, .int .u64 0] 97)).alloc (.cells #[.int .i64 s.n, .int .u64 s.a, .int .u64 s.b] 97) = V at *
    refine wp_region_held_drew (S := fun X => X.cell? ⟨b, 10, none⟩ = some (.pointer rp)) (by kernel_rfl) (nodePrE (G.out.drew.st.stay _ _ HN.out)) (fun hHeld => ?_)
    refine wpAnyH_take (i := 0) (v := ?_) rfl (by kernel_rfl) (by kernel_rfl) (by kernel_rfl) (fun _ _ _ h => h) (Or.inl ⟨by rfl, ?_⟩) (by assumption) ?_
    rotate_left
    · intro w hSw
      go_simp
      try with_reducible rfl
    simp only [Act.put, List.getElem_toArray, List.getElem_cons_zero, List.setIfInBounds_toArray, List.set_cons_zero, List.set_cons_succ]
    refine wpAnyH_take (i := 2) (v := ?_) rfl (by kernel_rfl) (by kernel_rfl) (by kernel_rfl) (fun _ _ _ h => h) (Or.inl ⟨by rfl, ?_⟩) (by assumption) ?_
    rotate_left
    · intro w hSw
      go_simp
      try with_reducible rfl
    simp only [Act.put, List.getElem_toArray, List.getElem_cons_zero, List.getElem_cons_succ, List.setIfInBounds_toArray, List.set_cons_zero, List.set_cons_succ]
    refine wpAnyH_take (i := 3) (v := ?_) rfl (by kernel_rfl) (by kernel_rfl) (by kernel_rfl) (fun _ _ _ h => h) (Or.inl ⟨by rfl, ?_⟩) (by assumption) ?_
    rotate_left
    · intro w hSw
      go_simp
      try with_reducible rfl
    simp only [Act.put, List.getElem_toArray, List.getElem_cons_zero, List.getElem_cons_succ, List.setIfInBounds_toArray, List.set_cons_zero, List.set_cons_succ]
    refine wpAnyH_take (i := 4) (v := ?_) rfl (by kernel_rfl) (by kernel_rfl) (by kernel_rfl) (fun _ _ _ h => h) (Or.inl ⟨by rfl, ?_⟩) (by assumption) ?_
    rotate_left
    · intro w hSw
      go_simp
      try with_reducible rfl
    simp only [Act.put, List.getElem_toArray, List.getElem_cons_zero, List.getElem_cons_succ, List.setIfInBounds_toArray, List.set_cons_zero, List.set_cons_succ]
    refine wpAnyH_take (i := 5) (v := ?_) rfl (by kernel_rfl) (by kernel_rfl) (by kernel_rfl) (fun _ _ _ h => h) (Or.inl ⟨by rfl, ?_⟩) (by assumption) ?_
    rotate_left
    · intro w hSw
      go_simp
      try with_reducible rfl
    simp only [Act.put, List.getElem_toArray, List.getElem_cons_zero, List.getElem_cons_succ, List.setIfInBounds_toArray, List.set_cons_zero, List.set_cons_succ]
    refine wpAnyH_take (i := 6) (v := ?_) rfl (by kernel_rfl) (by kernel_rfl) (by kernel_rfl) (fun _ _ _ h => h) (Or.inl ⟨by rfl, ?_⟩) (by assumption) ?_
    rotate_left
    · intro w hSw
      go_simp
      try with_reducible rfl
    simp only [Act.put, List.getElem_toArray, List.getElem_cons_zero, List.getElem_cons_succ, List.setIfInBounds_toArray, List.set_cons_zero, List.set_cons_succ]
    refine wpAnyH_take (i := 7) (v := ?_) rfl (by kernel_rfl) (by kernel_rfl) (by kernel_rfl) (fun _ _ _ h => h) (Or.inl ⟨by rfl, ?_⟩) (by assumption) ?_
    rotate_left
    · intro w hSw
      go_simp
      try with_reducible rfl
    simp only [Act.put, List.getElem_toArray, List.getElem_cons_zero, List.getElem_cons_succ, List.setIfInBounds_toArray, List.set_cons_zero, List.set_cons_succ]
    refine wpAnyH_take (i := 8) (v := ?_) rfl (by kernel_rfl) (by kernel_rfl) (by kernel_rfl) (fun _ _ _ h => h) (Or.inl ⟨by rfl, ?_⟩) (by assumption) ?_
    rotate_left
    · intro w hSw
      go_simp
      try with_reducible rfl
    simp only [Act.put, List.getElem_toArray, List.getElem_cons_zero, List.getElem_cons_succ, List.setIfInBounds_toArray, List.set_cons_zero, List.set_cons_succ]
    refine wpAnyH_take (i := 9) (v := ?_) rfl (by kernel_rfl) (by kernel_rfl) (by kernel_rfl) (fun _ _ _ h => h) (Or.inl ⟨by rfl, ?_⟩) (by assumption) ?_
    rotate_left
    · intro w hSw
      go_simp
      try with_reducible rfl
    simp only [Act.put, List.getElem_toArray, List.getElem_cons_zero, List.getElem_cons_succ, List.setIfInBounds_toArray, List.set_cons_zero, List.set_cons_succ]
    refine wpAnyH_take (i := 10) (v := ?_) rfl (by kernel_rfl) (by kernel_rfl) (by kernel_rfl) (fun _ _ _ h => h) (Or.inl ⟨by rfl, ?_⟩) (by assumption) ?_
    rotate_left
    · intro w hSw
      go_simp
      try with_reducible rfl
    simp only [Act.put, List.getElem_toArray, List.getElem_cons_zero, List.getElem_cons_succ, List.setIfInBounds_toArray, List.set_cons_zero, List.set_cons_succ]
    refine wpAnyH_ready (rs := [1, 11]) (by kernel_rfl) (by simp) ?_
    refine AllReadyH.cons rfl (fun K hK => ?_) (AllReadyH.cons rfl (fun K hK => ?_) AllReadyH.nil)
    · obtain ⟨s0, s1, s2, z0, z1, z2⟩ := tri G.out.drew.sm
      go_simp
      refine hK.out _ _ hHeld (fun hHeld => ?_)
      clear hK K s0 s1 s2 z0 z1 z2
      refine wpAnyH_ready (rs := [11]) (by kernel_rfl) (by simp) ?_
      refine AllReadyH.cons rfl (fun K hK => ?_) AllReadyH.nil
      go_simp
      refine (CR'.out _ _ G.out.drew.st.tobj G.out.drew.st.cnt G.out.drew.st.stay).mono ?_
      rintro e w9 ⟨rfl, bc, kk⟩
      refine hK.out _ _ (nodePrE ((G.out.drew.on HC.out kk bc).st.stay _ _ HN.out)) (fun hHeld => ?_)
      clear hK K 
      have Gx := aside (G.out.drew.on HC.out kk bc)
      clear bc kk
      refine wpAnyH_ready (rs := [12]) (by kernel_rfl) (by simp) ?_
      refine AllReadyH.cons rfl (fun K hK => ?_) AllReadyH.nil
      go_simp
      refine (HB _ tb (n + cr) root s yr Gx.out.st.tobj Gx.out.st.cnt hzr).mono ?_
      rintro e w9 ⟨rfl, bc, kk⟩
      refine hK.out _ _ (nodePrE ((Gx.out.on HC.out kk bc).st.stay _ _ HN.out)) (fun hHeld => ?_)
      clear hK K 
      have Gxb := aside (Gx.out.on HC.out kk bc)
      obtain ⟨s0, s1, s2, z0, z1, z2⟩ := tri Gxb.out.sm
      clear bc kk
      refine wpAnyH_ready (rs := [13]) (by kernel_rfl) (by simp) ?_
      refine AllReadyH.cons rfl (fun K hK => ?_) AllReadyH.nil
      go_simp
      refine hK.out _ _ (nodePrE ((Gxb.out.set HC.out (tJoin s yr)).st.stay _ _ HN.out)) (fun hHeld => ?_)
      clear hK K 
      have Gxc := aside (Gxb.out.set HC.out (tJoin s yr))
      clear hHeld s0 s1 s2 z0 z1 z2 Gxb
      unfold set3 at Gxc
      refine wpAnyH_done (by kernel_rfl) ?_ _
      generalize ((w9.setCell ⟨w.heap.size + 1, 0, none⟩ (.int .i64 (tJoin s yr).n)).setCell ⟨w.heap.size + 1, 1, none⟩ (.int .u64 (tJoin s yr).a)).setCell ⟨w.heap.size + 1, 2, none⟩ (.int .u64 (tJoin s yr).b) = V2 at *
      obtain ⟨s0, s1, s2, z0, z1, z2⟩ := tri Gxc.out.sm
      obtain ⟨t0, t1, t2, y0, y1, y2⟩ := tri Gxc.out.st.res
      have E := aside (set3_end Gxc.out.st HC.out (tJoin s yr))
      unfold set3 at E
      go_wp2
      exact bodyPost_ret (v := .agg #[.int .i64 (tJoin s yr).n, .int .u64 (tJoin s yr).a, .int .u64 (tJoin s yr).b]) (by simp [results, Tryd.results99, go_sem, t0, t1, t2]) rfl ⟨rfl, E.out.1, E.out.2⟩
    · go_simp
      refine (CR'.out _ _ G.out.drew.st.tobj G.out.drew.st.cnt G.out.drew.st.stay).mono ?_
      rintro e w9 ⟨rfl, bc, kk⟩
      refine hK.out _ _ (nodePrE ((G.out.drew.on HC.out kk bc).st.stay _ _ HN.out)) (fun hHeld => ?_)
      clear hK K
      have Gx := aside (G.out.drew.on HC.out kk bc)
      clear bc kk
      obtain ⟨s0, s1, s2, z0, z1, z2⟩ := tri Gx.out.sm
      refine wpAnyH_ready (rs := [1]) (by kernel_rfl) (by simp) ?_
      refine AllReadyH.cons rfl (fun K hK => ?_) AllReadyH.nil
      go_simp
      refine hK.out _ _ (hHeld) (fun hHeld => ?_)
      clear hK K 
      clear s0 s1 s2 z0 z1 z2
      refine wpAnyH_ready (rs := [12]) (by kernel_rfl) (by simp) ?_
      refine AllReadyH.cons rfl (fun K hK => ?_) AllReadyH.nil
      go_simp
      refine (HB _ tb (n + cr) root s yr Gx.out.st.tobj Gx.out.st.cnt hzr).mono ?_
      rintro e w9 ⟨rfl, bc, kk⟩
      refine hK.out _ _ (nodePrE ((Gx.out.on HC.out kk bc).st.stay _ _ HN.out)) (fun hHeld => ?_)
      clear hK K 
      have Gxb := aside (Gx.out.on HC.out kk bc)
      obtain ⟨s0, s1, s2, z0, z1, z2⟩ := tri Gxb.out.sm
      clear bc kk
      refine wpAnyH_ready (rs := [13]) (by kernel_rfl) (by simp) ?_
      refine AllReadyH.cons rfl (fun K hK => ?_) AllReadyH.nil
      go_simp
      refine hK.out _ _ (nodePrE ((Gxb.out.set HC.out (tJoin s yr)).st.stay _ _ HN.out)) (fun hHeld => ?_)
      clear hK K 
      have Gxc := aside (Gxb.out.set HC.out (tJoin s yr))
      clear hHeld s0 s1 s2 z0 z1 z2 Gxb
      unfold set3 at Gxc
      refine wpAnyH_done (by kernel_rfl) ?_ _
      generalize ((w9.setCell ⟨w.heap.size + 1, 0, none⟩ (.int .i64 (tJoin s yr).n)).setCell ⟨w.heap.size + 1, 1, none⟩ (.int .u64 (tJoin s yr).a)).setCell ⟨w.heap.size + 1, 2, none⟩ (.int .u64 (tJoin s yr).b) = V2 at *
      obtain ⟨s0, s1, s2, z0, z1, z2⟩ := tri Gxc.out.sm
      obtain ⟨t0, t1, t2, y0, y1, y2⟩ := tri Gxc.out.st.res
      have E := aside (set3_end Gxc.out.st HC.out (tJoin s yr))
      unfold set3 at E
      go_wp2
      exact bodyPost_ret (v := .agg #[.int .i64 (tJoin s yr).n, .int .u64 (tJoin s yr).a, .int .u64 (tJoin s yr).b]) (by simp [results, Tryd.results99, go_sem, t0, t1, t2]) rfl ⟨rfl, E.out.1, E.out.2⟩
  · have hz1 := hz hz0
    clear hz
    go_enter Tryd.func99, Tryd.ntmps99
    go_wp2_with fail
    refine (CR.out _ F.out.stay).mono ?_
    rintro e w1 ⟨rfl, rfl⟩
    have G := aside (f2stE s F.out)
    go_wp2_with fail
    clear n11 n9 n10 n6 n7 n8 CR
    clear F
    generalize (w.alloc (.cells #[.int .i64 0, .int .u64 0, .int .u64 0] 97)).alloc (.cells #[.int .i64 s.n, .int .u64 s.a, .int .u64 s.b] 97) = V at *
    refine wp_region_held_drew (S := fun X => X.cell? ⟨b, 10, none⟩ = some (.pointer rp)) (by kernel_rfl) (nodePrE (G.out.drew.st.stay _ _ HN.out)) (fun hHeld => ?_)
    refine wpAnyH_take (i := 0) (v := ?_) rfl (by kernel_rfl) (by kernel_rfl) (by kernel_rfl) (fun _ _ _ h => h) (Or.inl ⟨by rfl, ?_⟩) (by assumption) ?_
    rotate_left
    · intro w hSw
      go_simp
      try with_reducible rfl
    simp only [Act.put, List.getElem_toArray, List.getElem_cons_zero, List.setIfInBounds_toArray, List.set_cons_zero, List.set_cons_succ]
    refine wpAnyH_take (i := 2) (v := ?_) rfl (by kernel_rfl) (by kernel_rfl) (by kernel_rfl) (fun _ _ _ h => h) (Or.inl ⟨by rfl, ?_⟩) (by assumption) ?_
    rotate_left
    · intro w hSw
      go_simp
      try with_reducible rfl
    simp only [Act.put, List.getElem_toArray, List.getElem_cons_zero, List.getElem_cons_succ, List.setIfInBounds_toArray, List.set_cons_zero, List.set_cons_succ]
    refine wpAnyH_take (i := 3) (v := ?_) rfl (by kernel_rfl) (by kernel_rfl) (by kernel_rfl) (fun _ _ _ h => h) (Or.inl ⟨by rfl, ?_⟩) (by assumption) ?_
    rotate_left
    · intro w hSw
      go_simp
      try with_reducible rfl
    simp only [Act.put, List.getElem_toArray, List.getElem_cons_zero, List.getElem_cons_succ, List.setIfInBounds_toArray, List.set_cons_zero, List.set_cons_succ]
    refine wpAnyH_take (i := 4) (v := ?_) rfl (by kernel_rfl) (by kernel_rfl) (by kernel_rfl) (fun _ _ _ h => h) (Or.inl ⟨by rfl, ?_⟩) (by assumption) ?_
    rotate_left
    · intro w hSw
      go_simp
      try with_reducible rfl
    simp only [Act.put, List.getElem_toArray, List.getElem_cons_zero, List.getElem_cons_succ, List.setIfInBounds_toArray, List.set_cons_zero, List.set_cons_succ]
    refine wpAnyH_take (i := 5) (v := ?_) rfl (by kernel_rfl) (by kernel_rfl) (by kernel_rfl) (fun _ _ _ h => h) (Or.inl ⟨by rfl, ?_⟩) (by assumption) ?_
    rotate_left
    · intro w hSw
      go_simp
      try with_reducible rfl
    simp only [Act.put, List.getElem_toArray, List.getElem_cons_zero, List.getElem_cons_succ, List.setIfInBounds_toArray, List.set_cons_zero, List.set_cons_succ]
    refine wpAnyH_take (i := 6) (v := ?_) rfl (by kernel_rfl) (by kernel_rfl) (by kernel_rfl) (fun _ _ _ h => h) (Or.inl ⟨by rfl, ?_⟩) (by assumption) ?_
    rotate_left
    · intro w hSw
      go_simp
      try with_reducible rfl
    simp only [Act.put, List.getElem_toArray, List.getElem_cons_zero, List.getElem_cons_succ, List.setIfInBounds_toArray, List.set_cons_zero, List.set_cons_succ]
    refine wpAnyH_take (i := 7) (v := ?_) rfl (by kernel_rfl) (by kernel_rfl) (by kernel_rfl) (fun _ _ _ h => h) (Or.inl ⟨by rfl, ?_⟩) (by assumption) ?_
    rotate_left
    · intro w hSw
      go_simp
      try with_reducible rfl
    simp only [Act.put, List.getElem_toArray, List.getElem_cons_zero, List.getElem_cons_succ, List.setIfInBounds_toArray, List.set_cons_zero, List.set_cons_succ]
    refine wpAnyH_take (i := 8) (v := ?_) rfl (by kernel_rfl) (by kernel_rfl) (by kernel_rfl) (fun _ _ _ h => h) (Or.inl ⟨by rfl, ?_⟩) (by assumption) ?_
    rotate_left
    · intro w hSw
      go_simp
      try with_reducible rfl
    simp only [Act.put, List.getElem_toArray, List.getElem_cons_zero, List.getElem_cons_succ, List.setIfInBounds_toArray, List.set_cons_zero, List.set_cons_succ]
    refine wpAnyH_take (i := 9) (v := ?_) rfl (by kernel_rfl) (by kernel_rfl) (by kernel_rfl) (fun _ _ _ h => h) (Or.inl ⟨by rfl, ?_⟩) (by assumption) ?_
    rotate_left
    · intro w hSw
      go_simp
      try with_reducible rfl
    simp only [Act.put, List.getElem_toArray, List.getElem_cons_zero, List.getElem_cons_succ, List.setIfInBounds_toArray, List.set_cons_zero, List.set_cons_succ]
    refine wpAnyH_take (i := 10) (v := ?_) rfl (by kernel_rfl) (by kernel_rfl) (by kernel_rfl) (fun _ _ _ h => h) (Or.inl ⟨by rfl, ?_⟩) (by assumption) ?_
    rotate_left
    · intro w hSw
      go_simp
      try with_reducible rfl
    simp only [Act.put, List.getElem_toArray, List.getElem_cons_zero, List.getElem_cons_succ, List.setIfInBounds_toArray, List.set_cons_zero, List.set_cons_succ]
    refine wpAnyH_ready (rs := [1, 11]) (by kernel_rfl) (by simp) ?_
    refine AllReadyH.cons rfl (fun K hK => ?_) (AllReadyH.cons rfl (fun K hK => ?_) AllReadyH.nil)
    · obtain ⟨s0, s1, s2, z0, z1, z2⟩ := tri G.out.drew.sm
      go_simp
      refine hK.out _ _ hHeld (fun hHeld => ?_)
      clear hK K s0 s1 s2 z0 z1 z2
      refine wpAnyH_ready (rs := [11]) (by kernel_rfl) (by simp) ?_
      refine AllReadyH.cons rfl (fun K hK => ?_) AllReadyH.nil
      go_simp
      refine (CR'.out _ _ G.out.drew.st.tobj G.out.drew.st.cnt G.out.drew.st.stay).mono ?_
      rintro e w9 ⟨rfl, bc, kk⟩
      refine hK.out _ _ (nodePrE ((G.out.drew.on HC.out kk bc).st.stay _ _ HN.out)) (fun hHeld => ?_)
      clear hK K 
      have Gx := aside (G.out.drew.on HC.out kk bc)
      clear bc kk
      refine wpAnyH_ready (rs := [12]) (by kernel_rfl) (by simp) ?_
      refine AllReadyH.cons rfl (fun K hK => ?_) AllReadyH.nil
      go_simp
      refine (HB _ tb (n + cr) root s yr Gx.out.st.tobj Gx.out.st.cnt hzr).mono ?_
      rintro e w9 ⟨rfl, bc, kk⟩
      refine hK.out _ _ (nodePrE ((Gx.out.on HC.out kk bc).st.stay _ _ HN.out)) (fun hHeld => ?_)
      clear hK K 
      have Gxb := aside (Gx.out.on HC.out kk bc)
      obtain ⟨s0, s1, s2, z0, z1, z2⟩ := tri Gxb.out.sm
      clear bc kk
      refine wpAnyH_ready (rs := [13]) (by kernel_rfl) (by simp) ?_
      refine AllReadyH.cons rfl (fun K hK => ?_) AllReadyH.nil
      go_simp
      refine hK.out _ _ (nodePrE ((Gxb.out.set HC.out (tJoin s yr)).st.stay _ _ HN.out)) (fun hHeld => ?_)
      clear hK K 
      have Gxc := aside (Gxb.out.set HC.out (tJoin s yr))
      clear hHeld s0 s1 s2 z0 z1 z2 Gxb
      unfold set3 at Gxc
      refine wpAnyH_done (by kernel_rfl) ?_ _
      generalize ((w9.setCell ⟨w.heap.size + 1, 0, none⟩ (.int .i64 (tJoin s yr).n)).setCell ⟨w.heap.size + 1, 1, none⟩ (.int .u64 (tJoin s yr).a)).setCell ⟨w.heap.size + 1, 2, none⟩ (.int .u64 (tJoin s yr).b) = V2 at *
      obtain ⟨s0, s1, s2, z0, z1, z2⟩ := tri Gxc.out.sm
      obtain ⟨t0, t1, t2, y0, y1, y2⟩ := tri Gxc.out.st.res
      have E := aside (set3_end Gxc.out.st HC.out (tJoin s yr))
      unfold set3 at E
      go_wp2
      exact bodyPost_ret (v := .agg #[.int .i64 (tJoin s yr).n, .int .u64 (tJoin s yr).a, .int .u64 (tJoin s yr).b]) (by simp [results, Tryd.results99, go_sem, t0, t1, t2]) rfl ⟨rfl, E.out.1, E.out.2⟩
    · go_simp
      refine (CR'.out _ _ G.out.drew.st.tobj G.out.drew.st.cnt G.out.drew.st.stay).mono ?_
      rintro e w9 ⟨rfl, bc, kk⟩
      refine hK.out _ _ (nodePrE ((G.out.drew.on HC.out kk bc).st.stay _ _ HN.out)) (fun hHeld => ?_)
      clear hK K
      have Gx := aside (G.out.drew.on HC.out kk bc)
      clear bc kk
      obtain ⟨s0, s1, s2, z0, z1, z2⟩ := tri Gx.out.sm
      refine wpAnyH_ready (rs := [1]) (by kernel_rfl) (by simp) ?_
      refine AllReadyH.cons rfl (fun K hK => ?_) AllReadyH.nil
      go_simp
      refine hK.out _ _ (hHeld) (fun hHeld => ?_)
      clear hK K 
      clear s0 s1 s2 z0 z1 z2
      refine wpAnyH_ready (rs := [12]) (by kernel_rfl) (by simp) ?_
      refine AllReadyH.cons rfl (fun K hK => ?_) AllReadyH.nil
      go_simp
      refine (HB _ tb (n + cr) root s yr Gx.out.st.tobj Gx.out.st.cnt hzr).mono ?_
      rintro e w9 ⟨rfl, bc, kk⟩
      refine hK.out _ _ (nodePrE ((Gx.out.on HC.out kk bc).st.stay _ _ HN.out)) (fun hHeld => ?_)
      clear hK K 
      have Gxb := aside (Gx.out.on HC.out kk bc)
      obtain ⟨s0, s1, s2, z0, z1, z2⟩ := tri Gxb.out.sm
      clear bc kk
      refine wpAnyH_ready (rs := [13]) (by kernel_rfl) (by simp) ?_
      refine AllReadyH.cons rfl (fun K hK => ?_) AllReadyH.nil
      go_simp
      refine hK.out _ _ (nodePrE ((Gxb.out.set HC.out (tJoin s yr)).st.stay _ _ HN.out)) (fun hHeld => ?_)
      clear hK K 
      have Gxc := aside (Gxb.out.set HC.out (tJoin s yr))
      clear hHeld s0 s1 s2 z0 z1 z2 Gxb
      unfold set3 at Gxc
      refine wpAnyH_done (by kernel_rfl) ?_ _
      generalize ((w9.setCell ⟨w.heap.size + 1, 0, none⟩ (.int .i64 (tJoin s yr).n)).setCell ⟨w.heap.size + 1, 1, none⟩ (.int .u64 (tJoin s yr).a)).setCell ⟨w.heap.size + 1, 2, none⟩ (.int .u64 (tJoin s yr).b) = V2 at *
      obtain ⟨s0, s1, s2, z0, z1, z2⟩ := tri Gxc.out.sm
      obtain ⟨t0, t1, t2, y0, y1, y2⟩ := tri Gxc.out.st.res
      have E := aside (set3_end Gxc.out.st HC.out (tJoin s yr))
      unfold set3 at E
      go_wp2
      exact bodyPost_ret (v := .agg #[.int .i64 (tJoin s yr).n, .int .u64 (tJoin s yr).a, .int .u64 (tJoin s yr).b]) (by simp [results, Tryd.results99, go_sem, t0, t1, t2]) rfl ⟨rfl, E.out.1, E.out.2⟩
end Go.Proofs.YtlbkcndmljlnmaaDoor

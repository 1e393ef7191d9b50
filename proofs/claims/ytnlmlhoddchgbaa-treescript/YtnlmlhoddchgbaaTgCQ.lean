/-
  fold (Q): its contract, what it lays.
  fold (Q), the first cases.
  fold (Q), a case.
  fold (Q), a case.
  fold (Q), a case.
  fold (Q), a case.
  fold (Q).
  Fold (Q).
-/
import Derived.Test.YtnlmlhoddchgbaaTgAQ
import Derived.Test.YtnlmlhoddchgbaaTgBQ
namespace Go.Proofs.Ytnlmlhoddchgbaa
open Go.RowKit
set_option linter.unusedVariables false

/-- fold answers as the plain function says, and counts so. -/
def FoldOkQ (jv : Value) (c : Option Nat) (T : Tr Int ByteArray) : Prop :=
  ∀ (w : World) (tb n i j : Nat) (I J : Int) (root p : Option Addr), I = (i : Int) → J = (j : Int) → TObjQ w tb jv root → Cnt c n w → IsTQ w p T → i < j → j ≤ T.cnt →
    Calls Try.prog 69 #[.pointer (some ⟨tb, 0, none⟩), .pointer p, .int .i64 I, .int .i64 J] w fun e w' => e = .returned (.string (Tr.fld sJoin sZero T i j)) ∧ Cnt c (n + Tr.fldC T i j) w' ∧ Keeps (OnC c) w w'

structure FStQ (w V : World) (tb n : Nat) (jv : Value) (root : Option Addr) (c : Option Nat) : Prop where
  keeps : Keeps (OnC c) w V
  cnt : Cnt c n V
  tobj : TObjQ V tb jv root
  stay : Stay 126 w V

theorem FStQ.drew {w V : World} {tb n : Nat} {jv : Value} {root : Option Addr} {c : Option Nat} (h : FStQ w V tb n jv root c) : FStQ w V.drew tb n jv root c := ⟨h.keeps.drew, h.cnt.drew, h.tobj, h.stay.drew⟩

theorem FStQ.on {w V : World} {tb n : Nat} {jv : Value} {root : Option Addr} {c : Option Nat} {V' : World} {m n0 : Nat} (h : FStQ w V tb n jv root c) (h0 : Cnt c n0 w) (kk : Keeps (OnC c) V V') (hm : Cnt c m V') : FStQ w V' tb m jv root c :=
  ⟨h.keeps.trans kk, hm, h.tobj.onC h.cnt kk, h.stay.onC h.cnt kk (by decide)⟩

theorem FStQ.alloc {w V : World} {tb n : Nat} {jv : Value} {root : Option Addr} {c : Option Nat} (h : FStQ w V tb n jv root c) (o : Obj) : FStQ w (V.alloc o) tb n jv root c := by
  refine ⟨h.keeps.alloc _, h.cnt.alloc _, ?_, h.stay.alloc _⟩
  have ht := h.tobj
  unfold TObjQ at ht ⊢
  exact blk_on ht (bnew _ _)

end Go.Proofs.Ytnlmlhoddchgbaa
namespace Go.Proofs.Ytnlmlhoddchgbaa
open Go.RowKit
set_option linter.unusedVariables false

set_option maxHeartbeats 3200000 in
set_option maxRecDepth 100000 in
theorem foldAQ {jv : Value} {c : Option Nat} (HB : BothOkQ jv c) {w : World} {tb n : Nat} {root : Option Addr} {l r : Tr Int ByteArray} {k : ByteArray} {v : Int} {s q : ByteArray} {b : Nat} {lp rp : Option Addr} {C H I J lc : Int} (ht : TObjQ w tb jv root) (hc : Cnt c n w) (hb : w.heap[b]? = some (.cells #[.string k, .int .i64 v, .string s, .pointer lp, .pointer rp, .int .i64 C, .int .i64 H, .string q] 126 (0, 0))) (hl : IsTQ w lp l) (hr : IsTQ w rp r) (hlc : (l.cnt : Int) = lc) (hz : (I == 0) = true) (hq : (J == C) = true) : Calls Try.prog 69 #[.pointer (some ⟨tb, 0, none⟩), .pointer (some ⟨b, 0, none⟩), .int .i64 I, .int .i64 J] w fun e w' => e = .returned (.string q) ∧ Cnt c (n + 0) w' ∧ Keeps (OnC c) w w' := by
  have F := aside (⟨Keeps.refl _ w, hc, ht, Stay.refl _ w⟩ : FStQ w w tb n jv root c)
  have HC := aside hc
  have HN := aside hb
  have hn := nodeQ (F.out.stay _ _ hb)
  obtain ⟨-, -, -, -, -, n5, -, n7⟩ := hn
  have CR := aside (fun (W : World) (h : Stay 126 w W) => hlc ▸ rowsQ (hl.on h))
  clear ht hc hb hl hr hlc CR
  go_enter Try.func69, Try.ntmps69
  go_wp2
  go_ret
  exact ⟨rfl, HC.out, Keeps.refl _ _⟩

set_option maxHeartbeats 3200000 in
set_option maxRecDepth 100000 in
theorem foldBQ {jv : Value} {c : Option Nat} (HB : BothOkQ jv c) {w : World} {tb n : Nat} {root : Option Addr} {l r : Tr Int ByteArray} {k : ByteArray} {v : Int} {s q : ByteArray} {b : Nat} {lp rp : Option Addr} {C H I J lc : Int} (ht : TObjQ w tb jv root) (hc : Cnt c n w) (hb : w.heap[b]? = some (.cells #[.string k, .int .i64 v, .string s, .pointer lp, .pointer rp, .int .i64 C, .int .i64 H, .string q] 126 (0, 0))) (hl : IsTQ w lp l) (hr : IsTQ w rp r) (hlc : (l.cnt : Int) = lc) {y : ByteArray} {cst : Nat} (CF : ∀ W : World, TObjQ W tb jv root → Cnt c n W → Stay 126 w W → Calls Try.prog 69 #[.pointer (some ⟨tb, 0, none⟩), .pointer lp, .int .i64 I, .int .i64 J] W fun e w' => e = .returned (.string y) ∧ Cnt c (n + cst) w' ∧ Keeps (OnC c) W w') (hz : (I == 0) = true → (J == C) = false) (h1 : J ≤ lc) : Calls Try.prog 69 #[.pointer (some ⟨tb, 0, none⟩), .pointer (some ⟨b, 0, none⟩), .int .i64 I, .int .i64 J] w fun e w' => e = .returned (.string y) ∧ Cnt c (n + cst) w' ∧ Keeps (OnC c) w w' := by
  have F := aside (⟨Keeps.refl _ w, hc, ht, Stay.refl _ w⟩ : FStQ w w tb n jv root c)
  have HC := aside hc
  have HN := aside hb
  have hn := nodeQ (F.out.stay _ _ hb)
  obtain ⟨-, -, -, n3, n4, n5, -, -⟩ := hn
  have CR := aside (fun (W : World) (h : Stay 126 w W) => hlc ▸ rowsQ (hl.on h))
  have CF' := aside CF
  clear ht hc hb hl hr hlc CF
  cases hz0 : (I == 0)
  · clear hz
    go_enter Try.func69, Try.ntmps69
    go_wp2_with fail
    refine (CR.out _ F.out.stay).mono ?_
    rintro e w1 ⟨rfl, rfl⟩
    go_wp2_with fail
    refine (CF'.out _ F.out.tobj F.out.cnt F.out.stay).mono ?_
    rintro e w1 ⟨rfl, bc, kk⟩
    have G := aside (F.out.on HC.out kk bc)
    clear bc kk CF' CR n5 n3 n4 F
    go_wp2
    go_ret
    exact ⟨rfl, G.out.cnt, G.out.keeps⟩
  · have hz1 := hz hz0
    clear hz
    go_enter Try.func69, Try.ntmps69
    go_wp2_with fail
    refine (CR.out _ F.out.stay).mono ?_
    rintro e w1 ⟨rfl, rfl⟩
    go_wp2_with fail
    refine (CF'.out _ F.out.tobj F.out.cnt F.out.stay).mono ?_
    rintro e w1 ⟨rfl, bc, kk⟩
    have G := aside (F.out.on HC.out kk bc)
    clear bc kk CF' CR n5 n3 n4 F
    go_wp2
    go_ret
    exact ⟨rfl, G.out.cnt, G.out.keeps⟩

set_option maxHeartbeats 3200000 in
set_option maxRecDepth 100000 in
theorem foldCQ {jv : Value} {c : Option Nat} (HB : BothOkQ jv c) {w : World} {tb n : Nat} {root : Option Addr} {l r : Tr Int ByteArray} {k : ByteArray} {v : Int} {s q : ByteArray} {b : Nat} {lp rp : Option Addr} {C H I J lc : Int} (ht : TObjQ w tb jv root) (hc : Cnt c n w) (hb : w.heap[b]? = some (.cells #[.string k, .int .i64 v, .string s, .pointer lp, .pointer rp, .int .i64 C, .int .i64 H, .string q] 126 (0, 0))) (hl : IsTQ w lp l) (hr : IsTQ w rp r) (hlc : (l.cnt : Int) = lc) {y : ByteArray} {cst : Nat} (CF : ∀ W : World, TObjQ W tb jv root → Cnt c n W → Stay 126 w W → Calls Try.prog 69 #[.pointer (some ⟨tb, 0, none⟩), .pointer rp, .int .i64 (I - lc - 1), .int .i64 (J - lc - 1)] W fun e w' => e = .returned (.string y) ∧ Cnt c (n + cst) w' ∧ Keeps (OnC c) W w') (hz0 : (I == 0) = false) (h1 : ¬ J ≤ lc) (h2 : lc < I) (w1 : IntKind.i64.wrap (I - lc) = I - lc) (w2 : IntKind.i64.wrap (I - lc - 1) = I - lc - 1) (w3 : IntKind.i64.wrap (J - lc) = J - lc) (w4 : IntKind.i64.wrap (J - lc - 1) = J - lc - 1) : Calls Try.prog 69 #[.pointer (some ⟨tb, 0, none⟩), .pointer (some ⟨b, 0, none⟩), .int .i64 I, .int .i64 J] w fun e w' => e = .returned (.string y) ∧ Cnt c (n + cst) w' ∧ Keeps (OnC c) w w' := by
  have F := aside (⟨Keeps.refl _ w, hc, ht, Stay.refl _ w⟩ : FStQ w w tb n jv root c)
  have HC := aside hc
  have HN := aside hb
  have hn := nodeQ (F.out.stay _ _ hb)
  obtain ⟨-, -, -, n3, n4, n5, -, -⟩ := hn
  have CR := aside (fun (W : World) (h : Stay 126 w W) => hlc ▸ rowsQ (hl.on h))
  have CF' := aside CF
  clear ht hc hb hl hr hlc CF
  go_enter Try.func69, Try.ntmps69
  go_wp2_with fail
  refine (CR.out _ F.out.stay).mono ?_
  rintro e w1 ⟨rfl, rfl⟩
  go_wp2_with fail
  refine (CF'.out _ F.out.tobj F.out.cnt F.out.stay).mono ?_
  rintro e w1 ⟨rfl, bc, kk⟩
  have G := aside (F.out.on HC.out kk bc)
  clear bc kk CF' CR n5 n3 n4 F
  go_wp2
  go_ret
  exact ⟨rfl, G.out.cnt, G.out.keeps⟩

end Go.Proofs.Ytnlmlhoddchgbaa
namespace Go.Proofs.Ytnlmlhoddchgbaa
open Go.RowKit
set_option linter.unusedVariables false

set_option maxHeartbeats 6400000 in
set_option maxRecDepth 100000 in
theorem foldD00Q {jv : Value} {c : Option Nat} (HB : BothOkQ jv c) {w : World} {tb n : Nat} {root : Option Addr} {l : Tr Int ByteArray} {k : ByteArray} {v : Int} {s q : ByteArray} {b : Nat} {lp rp : Option Addr} {C H I J lc : Int} (ht : TObjQ w tb jv root) (hc : Cnt c n w) (hb : w.heap[b]? = some (.cells #[.string k, .int .i64 v, .string s, .pointer lp, .pointer rp, .int .i64 C, .int .i64 H, .string q] 126 (0, 0))) (hl : IsTQ w lp l) (hlc : (l.cnt : Int) = lc) (hz : (I == 0) = true → (J == C) = false) (h1 : ¬ J ≤ lc) (h2 : ¬ lc < I) (h3 : ¬ I < lc) (w5 : IntKind.i64.wrap (lc + 1) = lc + 1) (h4 : ¬ lc + 1 < J) : Calls Try.prog 69 #[.pointer (some ⟨tb, 0, none⟩), .pointer (some ⟨b, 0, none⟩), .int .i64 I, .int .i64 J] w fun e w' => e = .returned (.string s) ∧ Cnt c n w' ∧ Keeps (OnC c) w w' := by
  have F := aside (⟨Keeps.refl _ w, hc, ht, Stay.refl _ w⟩ : FStQ w w tb n jv root c)
  have HC := aside hc
  have HN := aside hb
  have hn := nodeQ (F.out.stay _ _ hb)
  obtain ⟨-, -, n2, n3, n4, n5, -, -⟩ := hn
  have CR := aside (fun (W : World) (h : Stay 126 w W) => hlc ▸ rowsQ (hl.on h))
  clear ht hc hb hl hlc
  cases hz0 : (I == 0)
  · clear hz
    go_enter Try.func69, Try.ntmps69
    go_wp2_with fail
    refine (CR.out _ F.out.stay).mono ?_
    rintro e w1 ⟨rfl, rfl⟩
    go_wp2
    go_ret
    exact ⟨rfl, F.out.cnt, F.out.keeps⟩
  · have hz1 := hz hz0
    clear hz
    go_enter Try.func69, Try.ntmps69
    go_wp2_with fail
    refine (CR.out _ F.out.stay).mono ?_
    rintro e w1 ⟨rfl, rfl⟩
    go_wp2
    go_ret
    exact ⟨rfl, F.out.cnt, F.out.keeps⟩

end Go.Proofs.Ytnlmlhoddchgbaa
namespace Go.Proofs.Ytnlmlhoddchgbaa
open Go.RowKit
set_option linter.unusedVariables false

set_option maxHeartbeats 6400000 in
set_option maxRecDepth 100000 in
theorem foldD01Q {jv : Value} {c : Option Nat} (HB : BothOkQ jv c) {w : World} {tb n : Nat} {root : Option Addr} {l : Tr Int ByteArray} {k : ByteArray} {v : Int} {s q : ByteArray} {b : Nat} {lp rp : Option Addr} {C H I J lc : Int} (ht : TObjQ w tb jv root) (hc : Cnt c n w) (hb : w.heap[b]? = some (.cells #[.string k, .int .i64 v, .string s, .pointer lp, .pointer rp, .int .i64 C, .int .i64 H, .string q] 126 (0, 0))) (hl : IsTQ w lp l) (hlc : (l.cnt : Int) = lc) {yr : ByteArray} {cr : Nat} (CFR : ∀ (W : World) (m : Nat), TObjQ W tb jv root → Cnt c m W → Stay 126 w W → Calls Try.prog 69 #[.pointer (some ⟨tb, 0, none⟩), .pointer rp, .int .i64 0, .int .i64 (J - lc - 1)] W fun e w' => e = .returned (.string yr) ∧ Cnt c (m + cr) w' ∧ Keeps (OnC c) W w') (hzr : sSz s + sSz yr ≤ 4611686018427387904) (w3 : IntKind.i64.wrap (J - lc) = J - lc) (w4 : IntKind.i64.wrap (J - lc - 1) = J - lc - 1) (hz : (I == 0) = true → (J == C) = false) (h1 : ¬ J ≤ lc) (h2 : ¬ lc < I) (h3 : ¬ I < lc) (w5 : IntKind.i64.wrap (lc + 1) = lc + 1) (h4 : lc + 1 < J) : Calls Try.prog 69 #[.pointer (some ⟨tb, 0, none⟩), .pointer (some ⟨b, 0, none⟩), .int .i64 I, .int .i64 J] w fun e w' => e = .returned (.string (sJoin s yr)) ∧ Cnt c (n + cr + 1) w' ∧ Keeps (OnC c) w w' := by
  have F := aside (⟨Keeps.refl _ w, hc, ht, Stay.refl _ w⟩ : FStQ w w tb n jv root c)
  have HC := aside hc
  have HN := aside hb
  have hn := nodeQ (F.out.stay _ _ hb)
  obtain ⟨-, -, n2, n3, n4, n5, -, -⟩ := hn
  have CR := aside (fun (W : World) (h : Stay 126 w W) => hlc ▸ rowsQ (hl.on h))
  have CR' := aside CFR
  clear CFR
  clear ht hc hb hl hlc
  cases hz0 : (I == 0)
  · clear hz
    go_enter Try.func69, Try.ntmps69
    go_wp2_with fail
    refine (CR.out _ F.out.stay).mono ?_
    rintro e w1 ⟨rfl, rfl⟩
    go_wp2_with fail
    refine (CR'.out _ _ F.out.tobj F.out.cnt F.out.stay).mono ?_
    rintro e w4 ⟨rfl, bc, kk⟩
    have F4 := aside (F.out.on HC.out kk bc)
    clear bc kk
    go_wp2_with fail
    refine (HB _ tb (n + cr) root s yr F4.out.tobj F4.out.cnt hzr).mono ?_
    rintro e w5' ⟨rfl, bc, kk⟩
    have F5 := aside (F4.out.on HC.out kk bc)
    clear bc kk F4
    go_wp2
    go_ret
    exact ⟨rfl, F5.out.cnt, F5.out.keeps⟩
  · have hz1 := hz hz0
    clear hz
    go_enter Try.func69, Try.ntmps69
    go_wp2_with fail
    refine (CR.out _ F.out.stay).mono ?_
    rintro e w1 ⟨rfl, rfl⟩
    go_wp2_with fail
    refine (CR'.out _ _ F.out.tobj F.out.cnt F.out.stay).mono ?_
    rintro e w4 ⟨rfl, bc, kk⟩
    have F4 := aside (F.out.on HC.out kk bc)
    clear bc kk
    go_wp2_with fail
    refine (HB _ tb (n + cr) root s yr F4.out.tobj F4.out.cnt hzr).mono ?_
    rintro e w5' ⟨rfl, bc, kk⟩
    have F5 := aside (F4.out.on HC.out kk bc)
    clear bc kk F4
    go_wp2
    go_ret
    exact ⟨rfl, F5.out.cnt, F5.out.keeps⟩

end Go.Proofs.Ytnlmlhoddchgbaa
namespace Go.Proofs.Ytnlmlhoddchgbaa
open Go.RowKit
set_option linter.unusedVariables false

set_option maxHeartbeats 6400000 in
set_option maxRecDepth 100000 in
theorem foldD10Q {jv : Value} {c : Option Nat} (HB : BothOkQ jv c) {w : World} {tb n : Nat} {root : Option Addr} {l : Tr Int ByteArray} {k : ByteArray} {v : Int} {s q : ByteArray} {b : Nat} {lp rp : Option Addr} {C H I J lc : Int} (ht : TObjQ w tb jv root) (hc : Cnt c n w) (hb : w.heap[b]? = some (.cells #[.string k, .int .i64 v, .string s, .pointer lp, .pointer rp, .int .i64 C, .int .i64 H, .string q] 126 (0, 0))) (hl : IsTQ w lp l) (hlc : (l.cnt : Int) = lc) {yl : ByteArray} {cl : Nat} (CFL : ∀ (W : World) (m : Nat), TObjQ W tb jv root → Cnt c m W → Stay 126 w W → Calls Try.prog 69 #[.pointer (some ⟨tb, 0, none⟩), .pointer lp, .int .i64 I, .int .i64 lc] W fun e w' => e = .returned (.string yl) ∧ Cnt c (m + cl) w' ∧ Keeps (OnC c) W w') (hzl : sSz yl + sSz s ≤ 4611686018427387904) (hz : (I == 0) = true → (J == C) = false) (h1 : ¬ J ≤ lc) (h2 : ¬ lc < I) (h3 : I < lc) (w5 : IntKind.i64.wrap (lc + 1) = lc + 1) (h4 : ¬ lc + 1 < J) : Calls Try.prog 69 #[.pointer (some ⟨tb, 0, none⟩), .pointer (some ⟨b, 0, none⟩), .int .i64 I, .int .i64 J] w fun e w' => e = .returned (.string (sJoin yl s)) ∧ Cnt c (n + cl + 1) w' ∧ Keeps (OnC c) w w' := by
  have F := aside (⟨Keeps.refl _ w, hc, ht, Stay.refl _ w⟩ : FStQ w w tb n jv root c)
  have HC := aside hc
  have HN := aside hb
  have hn := nodeQ (F.out.stay _ _ hb)
  obtain ⟨-, -, n2, n3, n4, n5, -, -⟩ := hn
  have CR := aside (fun (W : World) (h : Stay 126 w W) => hlc ▸ rowsQ (hl.on h))
  have CL' := aside CFL
  clear CFL
  clear ht hc hb hl hlc
  cases hz0 : (I == 0)
  · clear hz
    go_enter Try.func69, Try.ntmps69
    go_wp2_with fail
    refine (CR.out _ F.out.stay).mono ?_
    rintro e w1 ⟨rfl, rfl⟩
    go_wp2_with fail
    refine (CL'.out _ _ F.out.tobj F.out.cnt F.out.stay).mono ?_
    rintro e w2 ⟨rfl, bc, kk⟩
    have F2 := aside (F.out.on HC.out kk bc)
    clear bc kk
    go_wp2_with fail
    refine (HB _ tb (n + cl) root yl s F2.out.tobj F2.out.cnt hzl).mono ?_
    rintro e w3 ⟨rfl, bc, kk⟩
    have F3 := aside (F2.out.on HC.out kk bc)
    have hn3 := nodeQ (F3.out.stay _ _ HN.out)
    obtain ⟨-, -, -, -, m4, -, -, -⟩ := hn3
    clear bc kk F2 F n5 n3 n4 n2
    go_wp2
    go_ret
    exact ⟨rfl, F3.out.cnt, F3.out.keeps⟩
  · have hz1 := hz hz0
    clear hz
    go_enter Try.func69, Try.ntmps69
    go_wp2_with fail
    refine (CR.out _ F.out.stay).mono ?_
    rintro e w1 ⟨rfl, rfl⟩
    go_wp2_with fail
    refine (CL'.out _ _ F.out.tobj F.out.cnt F.out.stay).mono ?_
    rintro e w2 ⟨rfl, bc, kk⟩
    have F2 := aside (F.out.on HC.out kk bc)
    clear bc kk
    go_wp2_with fail
    refine (HB _ tb (n + cl) root yl s F2.out.tobj F2.out.cnt hzl).mono ?_
    rintro e w3 ⟨rfl, bc, kk⟩
    have F3 := aside (F2.out.on HC.out kk bc)
    have hn3 := nodeQ (F3.out.stay _ _ HN.out)
    obtain ⟨-, -, -, -, m4, -, -, -⟩ := hn3
    clear bc kk F2 F n5 n3 n4 n2
    go_wp2
    go_ret
    exact ⟨rfl, F3.out.cnt, F3.out.keeps⟩

end Go.Proofs.Ytnlmlhoddchgbaa
namespace Go.Proofs.Ytnlmlhoddchgbaa
open Go.RowKit
set_option linter.unusedVariables false

set_option maxHeartbeats 6400000 in
set_option maxRecDepth 100000 in
theorem foldD11Q {jv : Value} {c : Option Nat} (HB : BothOkQ jv c) {w : World} {tb n : Nat} {root : Option Addr} {l : Tr Int ByteArray} {k : ByteArray} {v : Int} {s q : ByteArray} {b : Nat} {lp rp : Option Addr} {C H I J lc : Int} (ht : TObjQ w tb jv root) (hc : Cnt c n w) (hb : w.heap[b]? = some (.cells #[.string k, .int .i64 v, .string s, .pointer lp, .pointer rp, .int .i64 C, .int .i64 H, .string q] 126 (0, 0))) (hl : IsTQ w lp l) (hlc : (l.cnt : Int) = lc) {yl : ByteArray} {cl : Nat} (CFL : ∀ (W : World) (m : Nat), TObjQ W tb jv root → Cnt c m W → Stay 126 w W → Calls Try.prog 69 #[.pointer (some ⟨tb, 0, none⟩), .pointer lp, .int .i64 I, .int .i64 lc] W fun e w' => e = .returned (.string yl) ∧ Cnt c (m + cl) w' ∧ Keeps (OnC c) W w') (hzl : sSz yl + sSz s ≤ 4611686018427387904) {yr : ByteArray} {cr : Nat} (CFR : ∀ (W : World) (m : Nat), TObjQ W tb jv root → Cnt c m W → Stay 126 w W → Calls Try.prog 69 #[.pointer (some ⟨tb, 0, none⟩), .pointer rp, .int .i64 0, .int .i64 (J - lc - 1)] W fun e w' => e = .returned (.string yr) ∧ Cnt c (m + cr) w' ∧ Keeps (OnC c) W w') (hzr : sSz (sJoin yl s) + sSz yr ≤ 4611686018427387904) (w3 : IntKind.i64.wrap (J - lc) = J - lc) (w4 : IntKind.i64.wrap (J - lc - 1) = J - lc - 1) (hz : (I == 0) = true → (J == C) = false) (h1 : ¬ J ≤ lc) (h2 : ¬ lc < I) (h3 : I < lc) (w5 : IntKind.i64.wrap (lc + 1) = lc + 1) (h4 : lc + 1 < J) : Calls Try.prog 69 #[.pointer (some ⟨tb, 0, none⟩), .pointer (some ⟨b, 0, none⟩), .int .i64 I, .int .i64 J] w fun e w' => e = .returned (.string (sJoin (sJoin yl s) yr)) ∧ Cnt c ((n + cl + 1) + cr + 1) w' ∧ Keeps (OnC c) w w' := by
  have F := aside (⟨Keeps.refl _ w, hc, ht, Stay.refl _ w⟩ : FStQ w w tb n jv root c)
  have HC := aside hc
  have HN := aside hb
  have hn := nodeQ (F.out.stay _ _ hb)
  obtain ⟨-, -, n2, n3, n4, n5, -, -⟩ := hn
  have CR := aside (fun (W : World) (h : Stay 126 w W) => hlc ▸ rowsQ (hl.on h))
  have CL' := aside CFL
  clear CFL
  have CR' := aside CFR
  clear CFR
  clear ht hc hb hl hlc
  cases hz0 : (I == 0)
  · clear hz
    go_enter Try.func69, Try.ntmps69
    go_wp2_with fail
    refine (CR.out _ F.out.stay).mono ?_
    rintro e w1 ⟨rfl, rfl⟩
    go_wp2_with fail
    refine (CL'.out _ _ F.out.tobj F.out.cnt F.out.stay).mono ?_
    rintro e w2 ⟨rfl, bc, kk⟩
    have F2 := aside (F.out.on HC.out kk bc)
    clear bc kk
    go_wp2_with fail
    refine (HB _ tb (n + cl) root yl s F2.out.tobj F2.out.cnt hzl).mono ?_
    rintro e w3 ⟨rfl, bc, kk⟩
    have F3 := aside (F2.out.on HC.out kk bc)
    have hn3 := nodeQ (F3.out.stay _ _ HN.out)
    obtain ⟨-, -, -, -, m4, -, -, -⟩ := hn3
    clear bc kk F2 F n5 n3 n4 n2
    go_wp2_with fail
    refine (CR'.out _ _ F3.out.tobj F3.out.cnt F3.out.stay).mono ?_
    rintro e w4 ⟨rfl, bc, kk⟩
    have F4 := aside (F3.out.on HC.out kk bc)
    clear bc kk
    go_wp2_with fail
    refine (HB _ tb ((n + cl + 1) + cr) root (sJoin yl s) yr F4.out.tobj F4.out.cnt hzr).mono ?_
    rintro e w5' ⟨rfl, bc, kk⟩
    have F5 := aside (F4.out.on HC.out kk bc)
    clear bc kk F4
    go_wp2
    go_ret
    exact ⟨rfl, F5.out.cnt, F5.out.keeps⟩
  · have hz1 := hz hz0
    clear hz
    go_enter Try.func69, Try.ntmps69
    go_wp2_with fail
    refine (CR.out _ F.out.stay).mono ?_
    rintro e w1 ⟨rfl, rfl⟩
    go_wp2_with fail
    refine (CL'.out _ _ F.out.tobj F.out.cnt F.out.stay).mono ?_
    rintro e w2 ⟨rfl, bc, kk⟩
    have F2 := aside (F.out.on HC.out kk bc)
    clear bc kk
    go_wp2_with fail
    refine (HB _ tb (n + cl) root yl s F2.out.tobj F2.out.cnt hzl).mono ?_
    rintro e w3 ⟨rfl, bc, kk⟩
    have F3 := aside (F2.out.on HC.out kk bc)
    have hn3 := nodeQ (F3.out.stay _ _ HN.out)
    obtain ⟨-, -, -, -, m4, -, -, -⟩ := hn3
    clear bc kk F2 F n5 n3 n4 n2
    go_wp2_with fail
    refine (CR'.out _ _ F3.out.tobj F3.out.cnt F3.out.stay).mono ?_
    rintro e w4 ⟨rfl, bc, kk⟩
    have F4 := aside (F3.out.on HC.out kk bc)
    clear bc kk
    go_wp2_with fail
    refine (HB _ tb ((n + cl + 1) + cr) root (sJoin yl s) yr F4.out.tobj F4.out.cnt hzr).mono ?_
    rintro e w5' ⟨rfl, bc, kk⟩
    have F5 := aside (F4.out.on HC.out kk bc)
    clear bc kk F4
    go_wp2
    go_ret
    exact ⟨rfl, F5.out.cnt, F5.out.keeps⟩

end Go.Proofs.Ytnlmlhoddchgbaa
namespace Go.Proofs.Ytnlmlhoddchgbaa
open Go.RowKit
set_option linter.unusedVariables false

theorem foldQ {jv : Value} {c : Option Nat} (HB : BothOkQ jv c) : ∀ T : Tr Int ByteArray, T.wt sSz ≤ 4611686018427387904 → FoldOkQ jv c T
  | .nil, _ => fun w tb n i j I J root p _ _ _ _ _ h1 h2 => by simp [Tr.cnt] at h2; omega
  | .node l k v s r, hw => fun w tb n i j I J root p hI hJ ht hc hT h1 h2 => by
    have hL := foldQ HB l (by simp only [Tr.wt] at hw; omega)
    have hR := foldQ HB r (by simp only [Tr.wt] at hw; omega)
    have hcw := Tr.cnt_le_wt sSz (Tr.node l k v s r)
    obtain ⟨b, lp, rp, rfl, hb, hl, hr⟩ := hT
    have hcn : (Tr.node l k v s r).cnt = l.cnt + 1 + r.cnt := rfl
    by_cases g0 : i = 0 ∧ j = (Tr.node l k v s r).cnt
    · simp only [Tr.fld, Tr.fldC, if_pos g0]
      exact foldAQ HB ht hc hb hl hr rfl (by rw [hI, g0.1]; rfl) (by rw [hJ, g0.2]; simp)
    · simp only [Tr.fld, Tr.fldC, if_neg g0]
      have hz : (I == 0) = true → (J == ((Tr.node l k v s r).cnt : Int)) = false := fun e => by
        rw [beq_iff_eq] at e
        rw [beq_eq_false_iff_ne]
        omega
      by_cases g1 : j ≤ l.cnt
      · simp only [if_pos g1]
        exact foldBQ HB ht hc hb hl hr rfl (fun W a b d => hL W tb n i j I J root lp hI hJ a b (hl.on d) h1 g1) hz (by omega)
      · simp only [if_neg g1]
        by_cases g2 : l.cnt < i
        · simp only [if_pos g2]
          exact foldCQ HB ht hc hb hl hr rfl (fun W a b d => hR W tb n (i - l.cnt - 1) (j - l.cnt - 1) _ _ root rp (by omega) (by omega) a b (hr.on d) (by omega) (by omega)) (by rw [beq_eq_false_iff_ne]; omega) (by omega) (by omega) (by rw [IntKind.wrap_i64]; omega) (by rw [IntKind.wrap_i64]; omega) (by rw [IntKind.wrap_i64]; omega) (by rw [IntKind.wrap_i64]; omega)
        · simp only [if_neg g2]
          have hsl : i < l.cnt → sSz (Tr.fld sJoin sZero l i l.cnt) ≤ l.wt sSz := fun h => Tr.fld_le sSz_le sZero l i l.cnt h (Nat.le_refl _)
          have hsr : l.cnt + 1 < j → sSz (Tr.fld sJoin sZero r 0 (j - l.cnt - 1)) ≤ r.wt sSz := fun h => Tr.fld_le sSz_le sZero r 0 _ (by omega) (by omega)
          have hj2 := sSz_le (Tr.fld sJoin sZero l i l.cnt) s
          have hw2 := hw
          simp only [Tr.wt] at hw2
          by_cases g3 : i < l.cnt
          · by_cases g4 : l.cnt + 1 < j
            · simp only [if_pos g3, if_pos g4]
              refine (foldD11Q HB ht hc hb hl rfl (fun W m a b d => hL W tb m i l.cnt I _ root lp hI rfl a b (hl.on d) g3 (Nat.le_refl _)) (by have := hsl g3; omega) (fun W m a b d => hR W tb m 0 (j - l.cnt - 1) _ _ root rp rfl (by omega) a b (hr.on d) (by omega) (by omega)) (by have := hsl g3; have := hsr g4; omega) (by rw [IntKind.wrap_i64]; omega) (by rw [IntKind.wrap_i64]; omega) hz (by omega) (by omega) (by omega) (by rw [IntKind.wrap_i64]; omega) (by omega)).mono fun e w' h => ⟨h.1, ?_, h.2.2⟩
              rw [show n + (Tr.fldC l i l.cnt + 1 + (Tr.fldC r 0 (j - l.cnt - 1) + 1)) = n + Tr.fldC l i l.cnt + 1 + Tr.fldC r 0 (j - l.cnt - 1) + 1 from by omega]
              exact h.2.1
            · simp only [if_pos g3, if_neg g4]
              exact foldD10Q HB ht hc hb hl rfl (fun W m a b d => hL W tb m i l.cnt I _ root lp hI rfl a b (hl.on d) g3 (Nat.le_refl _)) (by have := hsl g3; omega) hz (by omega) (by omega) (by omega) (by rw [IntKind.wrap_i64]; omega) (by omega)
          · by_cases g4 : l.cnt + 1 < j
            · simp only [if_neg g3, if_pos g4]
              refine (foldD01Q HB ht hc hb hl rfl (fun W m a b d => hR W tb m 0 (j - l.cnt - 1) _ _ root rp rfl (by omega) a b (hr.on d) (by omega) (by omega)) (by have := hsr g4; omega) (by rw [IntKind.wrap_i64]; omega) (by rw [IntKind.wrap_i64]; omega) hz (by omega) (by omega) (by omega) (by rw [IntKind.wrap_i64]; omega) (by omega)).mono fun e w' h => ⟨h.1, ?_, h.2.2⟩
              rw [show n + (0 + (Tr.fldC r 0 (j - l.cnt - 1) + 1)) = n + Tr.fldC r 0 (j - l.cnt - 1) + 1 from by omega]
              exact h.2.1
            · simp only [if_neg g3, if_neg g4]
              exact foldD00Q HB ht hc hb hl rfl hz (by omega) (by omega) (by omega) (by rw [IntKind.wrap_i64]; omega) (by omega)

end Go.Proofs.Ytnlmlhoddchgbaa
namespace Go.Proofs.Ytnlmlhoddchgbaa
open Go.RowKit
set_option linter.unusedVariables false

set_option maxHeartbeats 6400000 in
set_option maxRecDepth 100000 in
theorem foldsQ {jv : Value} {c : Option Nat} (HB : BothOkQ jv c) {w : World} {tb n : Nat} {p0 : Option Addr} {T : Tr Int ByteArray} (I J : Int) (ht : TObjQ w tb jv p0) (hc : Cnt c n w) (hT : IsTQ w p0 T) (hw : T.wt sSz ≤ 4611686018427387904) :
    Calls Try.prog 40 #[.pointer (some ⟨tb, 0, none⟩), .int .i64 I, .int .i64 J] w fun e w' => e = .returned (.string (Tr.fol sJoin sZero T I J)) ∧ Cnt c (n + Tr.folC T I J) w' ∧ Keeps (OnC c) w w' := by
  have Fo := aside (foldQ HB T hw)
  have F := aside (⟨Keeps.refl _ w, hc, ht, Stay.refl _ w⟩ : FStQ w w tb n jv p0 c)
  have HC := aside hc
  have CL := aside (fun (W : World) (h : TObjQ W tb jv p0) (g : Stay 126 w W) => lenQ h (hT.on g))
  obtain ⟨c0, -, r0, -⟩ := tobjQ F.out.tobj
  obtain ⟨I', hI'⟩ : ∃ x, max I 0 = x := ⟨_, rfl⟩
  obtain ⟨J', hJ'⟩ : ∃ x, min J (T.cnt : Int) = x := ⟨_, rfl⟩
  rw [Tr.fol_eq _ _ _ _ _ hI' hJ', Tr.folC_eq _ _ _ hI' hJ']
  have hnn : (0 : Int) ≤ (T.cnt : Int) := by omega
  have CF := aside (fun (W : World) (m : Nat) (h1 : I' < J') (h : TObjQ W tb jv p0) (h2 : Cnt c m W) (g : Stay 126 w W) => Fo.out W tb m I'.toNat J'.toNat I' J' p0 p0 (by omega) (by omega) h h2 (hT.on g) (by omega) (by omega))
  generalize (T.cnt : Int) = nn at *
  have HT := aside hT
  clear ht hc hT hw Fo hnn
  by_cases q0 : I' < J'
  · rw [if_pos q0, if_pos q0]
    have CF' := aside (fun W m => CF.out W m q0)
    clear CF
    generalize Tr.fld sJoin sZero T I'.toNat J'.toNat = fv at *
    by_cases q1 : I < 0
    · have e1 : I' = 0 := by omega
      by_cases q2 : nn < J
      · have e2 : J' = nn := by omega
        subst e1 e2
        clear hI' hJ'
        go_enter Try.func40, Try.ntmps40
        go_wp2_with fail
        refine (CL.out _ F.out.tobj F.out.stay).mono ?_
        rintro e w1 ⟨rfl, rfl⟩
        go_wp2_with fail
        refine (CF'.out _ _ F.out.tobj F.out.cnt F.out.stay).mono ?_
        rintro e w1 ⟨rfl, bc, kk⟩
        have G := aside (F.out.on HC.out kk bc)
        clear bc kk CF' CL c0 r0 F
        go_wp2
        go_ret
        exact ⟨rfl, G.out.cnt, G.out.keeps⟩
      · have e2 : J' = J := by omega
        subst e1 e2
        clear hI' hJ'
        go_enter Try.func40, Try.ntmps40
        go_wp2_with fail
        refine (CL.out _ F.out.tobj F.out.stay).mono ?_
        rintro e w1 ⟨rfl, rfl⟩
        go_wp2_with fail
        refine (CF'.out _ _ F.out.tobj F.out.cnt F.out.stay).mono ?_
        rintro e w1 ⟨rfl, bc, kk⟩
        have G := aside (F.out.on HC.out kk bc)
        clear bc kk CF' CL c0 r0 F
        go_wp2
        go_ret
        exact ⟨rfl, G.out.cnt, G.out.keeps⟩
    · have e1 : I' = I := by omega
      by_cases q2 : nn < J
      · have e2 : J' = nn := by omega
        subst e1 e2
        clear hI' hJ'
        go_enter Try.func40, Try.ntmps40
        go_wp2_with fail
        refine (CL.out _ F.out.tobj F.out.stay).mono ?_
        rintro e w1 ⟨rfl, rfl⟩
        go_wp2_with fail
        refine (CF'.out _ _ F.out.tobj F.out.cnt F.out.stay).mono ?_
        rintro e w1 ⟨rfl, bc, kk⟩
        have G := aside (F.out.on HC.out kk bc)
        clear bc kk CF' CL c0 r0 F
        go_wp2
        go_ret
        exact ⟨rfl, G.out.cnt, G.out.keeps⟩
      · have e2 : J' = J := by omega
        subst e1 e2
        clear hI' hJ'
        go_enter Try.func40, Try.ntmps40
        go_wp2_with fail
        refine (CL.out _ F.out.tobj F.out.stay).mono ?_
        rintro e w1 ⟨rfl, rfl⟩
        go_wp2_with fail
        refine (CF'.out _ _ F.out.tobj F.out.cnt F.out.stay).mono ?_
        rintro e w1 ⟨rfl, bc, kk⟩
        have G := aside (F.out.on HC.out kk bc)
        clear bc kk CF' CL c0 r0 F
        go_wp2
        go_ret
        exact ⟨rfl, G.out.cnt, G.out.keeps⟩
  · rw [if_neg q0, if_neg q0]
    clear CF
    by_cases q1 : I < 0
    · have e1 : I' = 0 := by omega
      by_cases q2 : nn < J
      · have e2 : J' = nn := by omega
        subst e1 e2
        clear hI' hJ'
        go_enter Try.func40, Try.ntmps40
        go_wp2_with fail
        refine (CL.out _ F.out.tobj F.out.stay).mono ?_
        rintro e w1 ⟨rfl, rfl⟩
        go_wp2
        go_ret
        exact ⟨rfl, HC.out, Keeps.refl _ _⟩
      · have e2 : J' = J := by omega
        subst e1 e2
        clear hI' hJ'
        go_enter Try.func40, Try.ntmps40
        go_wp2_with fail
        refine (CL.out _ F.out.tobj F.out.stay).mono ?_
        rintro e w1 ⟨rfl, rfl⟩
        go_wp2
        go_ret
        exact ⟨rfl, HC.out, Keeps.refl _ _⟩
    · have e1 : I' = I := by omega
      by_cases q2 : nn < J
      · have e2 : J' = nn := by omega
        subst e1 e2
        clear hI' hJ'
        go_enter Try.func40, Try.ntmps40
        go_wp2_with fail
        refine (CL.out _ F.out.tobj F.out.stay).mono ?_
        rintro e w1 ⟨rfl, rfl⟩
        go_wp2
        go_ret
        exact ⟨rfl, HC.out, Keeps.refl _ _⟩
      · have e2 : J' = J := by omega
        subst e1 e2
        clear hI' hJ'
        go_enter Try.func40, Try.ntmps40
        go_wp2_with fail
        refine (CL.out _ F.out.tobj F.out.stay).mono ?_
        rintro e w1 ⟨rfl, rfl⟩
        go_wp2
        go_ret
        exact ⟨rfl, HC.out, Keeps.refl _ _⟩

end Go.Proofs.Ytnlmlhoddchgbaa

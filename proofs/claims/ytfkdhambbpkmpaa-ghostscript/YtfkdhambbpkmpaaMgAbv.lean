/-
  Above, the code's.
-/
import Derived.Test.YtfkdhambbpkmpaaMgList
namespace Go.Proofs.Ytfkdhambbpkmpaa
open Go.RowKit Go.Shelf
set_option linter.unusedVariables false
attribute [local go_sem] Oper.semAt_some
/-- What the loop of Above keeps: the two results' boxes, what was there, what the iterator reads. -/
structure AbC (w : World) (rb Ba Bb : Nat) (a : Option Addr) (la ca : Nat) (A : Nat → En) (b : Option Addr) (lb cb : Nat) (B : Nat → En) (X : World) : Prop where
  r0 : X.heap[rb]? = some (.cells #[.bool false] 4 (0, 0))
  r1 : X.heap[rb + 1]? = some (.cells #[.int .i64 0] 40 (0, 0))
  below : Below w.heap.size w X
  sd : SD Ba Bb a la ca A b lb cb B X
theorem AbC.own {w : World} {rb : Nat} {Ba Bb : Nat} {a : Option Addr} {la ca : Nat} {A : Nat → En} {b : Option Addr} {lb cb : Nat} {B : Nat → En} {X Y : World} {C : Nat} {row : Option Nat} (hC : w.heap.size ≤ C) (h : AbC w rb Ba Bb a la ca A b lb cb B X) (hg : X.grownBy Y row) (hr : ∀ r, row = some r → C ≤ r ∧ ∃ o : Obj, X.heap[r]? = some o ∧ o.isCells = false) : AbC w rb Ba Bb a la ca A b lb cb B Y :=
  ⟨cells_ownM h.r0 hg (fun r e => (hr r e).2), cells_ownM h.r1 hg (fun r e => (hr r e).2), h.below.grown hg h.below.size (fun k e => by have := (hr k e).1; omega), h.sd.own hg (fun r e => (hr r e).2)⟩
theorem AbC.keep {w : World} {rb : Nat} {Ba Bb : Nat} {a : Option Addr} {la ca : Nat} {A : Nat → En} {b : Option Addr} {lb cb : Nat} {B : Nat → En} {X Y : World} (h : AbC w rb Ba Bb a la ca A b lb cb B X) (bb : Below X.heap.size X Y) : AbC w rb Ba Bb a la ca A b lb cb B Y := h.own (C := w.heap.size) (Nat.le_refl _) (grown_below bb) (fun r e => by cases e)
def abP (l : List (En × En)) : Bool := l.all (fun p => !En.newer p.2 p.1)
theorem abP_snoc (l : List (En × En)) (p : En × En) : abP (l ++ [p]) = (abP l && !En.newer p.2 p.1) := by unfold abP; rw [List.all_append]; simp
theorem abP_part {l m r : List (En × En)} (h : l ++ r = m) (hl : abP l = false) : abP m = false := by
  unfold abP at *
  rw [← h, List.all_append, hl]
  rfl
theorem abP_prs (a b : List En) : abP (prs a b) = abL a b := rfl
/-- Two boxes side by side, written anew. -/
theorem two_set {X : World} {rb : Nat} {u0 u1 : Value} {T0 T1 : TypeId} (h0 : X.heap[rb]? = some (.cells #[u0] T0 (0, 0))) (h1 : X.heap[rb + 1]? = some (.cells #[u1] T1 (0, 0))) (u v : Value) :
    ((X.setCell ⟨rb, 0, none⟩ u).setCell ⟨rb + 1, 0, none⟩ v).heap[rb]? = some (.cells #[u] T0 (0, 0)) ∧ ((X.setCell ⟨rb, 0, none⟩ u).setCell ⟨rb + 1, 0, none⟩ v).heap[rb + 1]? = some (.cells #[v] T1 (0, 0)) := by
  have g0 : (X.setCell ⟨rb, 0, none⟩ u).heap[rb]? = some (.cells #[u] T0 (0, 0)) := by rw [heap_setCell_same X rb 0 _ _ u h0]; rfl
  have g1 : (X.setCell ⟨rb, 0, none⟩ u).heap[rb + 1]? = some (.cells #[u1] T1 (0, 0)) := by rw [Below.heap_setCell _ _ _ _ (by simp)]; exact h1
  refine ⟨?_, ?_⟩
  · rw [Below.heap_setCell _ _ _ _ (by simp)]; exact g0
  · rw [heap_setCell_same _ (rb + 1) 0 _ _ v g1]; rfl
/-- What Above answers. -/
def aboveV (q : Int) (l : List (En × En)) : Bool := if q = 0 then abP l else false
set_option maxHeartbeats 8000000 in
set_option maxRecDepth 100000 in
theorem mabove_any (a : Option Addr) (la ca : Nat) (A : Nat → En) (b : Option Addr) (lb cb : Nat) (B : Nat → En) (w : World) (hA : EntsIn w a la ca A) (hB : EntsIn w b lb cb B) (hl : la + lb ≤ 2147483648) :
    Calls Try.prog 15 #[.slice a la ca, .slice b lb cb] w fun r w' => r = .returned (.tuple #[.bool (aboveV (ck2 A la B lb) (prs (firstE A la) (firstE B lb))), .int .i64 (ck2 A la B lb)]) ∧ Below w.heap.size w w' := by
  obtain ⟨q, hq⟩ : ∃ q, ck2 A la B lb = q := ⟨_, rfl⟩
  have CK := aside (fun W (bb : Below w.heap.size w W) => mchk2_any a la ca A b lb cb B W (hA.keep bb) (hB.keep bb))
  rw [hq] at CK ⊢
  have HA := aside hA
  have HBB := aside hB
  clear hA hB hl hq
  have BW := aside (bthen (bnew w (.cells #[.bool false] 4)) (bnew (w.alloc (.cells #[.bool false] 4)) (.cells #[.int .i64 0] 40)))
  have K0 := aside (blk_on (heap_alloc_new w (.cells #[.bool false] 4)) (bnew (w.alloc (.cells #[.bool false] 4)) (.cells #[.int .i64 0] 40)))
  have k1 := heap_alloc_new (w.alloc (.cells #[.bool false] 4)) (.cells #[.int .i64 0] 40)
  rw [World.size_alloc] at k1
  have K1 := aside k1
  clear k1
  by_cases h0 : q = 0
  · subst h0
    unfold aboveV
    rw [if_pos rfl]
    refine (callsIn_wide (n := 5)).1 ?_
    refine callsIn_of_wp_marks Try.func15 rfl trivial ?_ rfl
    simp only [Try.ntmps15, List.size_toArray, List.length_cons, List.length_nil, Nat.reduceAdd, Nat.reduceSub, Array.replicate_succ, Array.replicate_zero, List.push_toArray, List.append_toArray, List.nil_append, List.cons_append]
    gi_wp2_with fail
    refine ⟨trivial, ?_⟩
    refine (callsIn_wide.2 (CK.out _ BW.out)).mono ?_
    rintro e w1 ⟨rfl, b1⟩
    have B1 := aside (bthen BW.out b1)
    replace K0 := aside (blk_on K0.out b1)
    replace K1 := aside (blk_on K1.out b1)
    clear b1 CK BW
    gi_wp2_with fail
    refine ⟨trivial, ?_⟩
    refine (callsIn_wide.2 (side_any _ _ _ _ _ _ _)).mono ?_
    rintro e w2 ⟨rfl, rfl⟩
    gi_wp2_with fail
    have SD2 := aside (side_sd (HA.out.keep B1.out) (HBB.out.keep B1.out))
    have bb := bthen (bnew w1 (.cells #[.slice a la ca] 32)) (bnew _ (.cells #[.slice b lb cb] 32))
    have B3 := aside (bthen B1.out bb)
    replace K0 := aside (blk_on K0.out bb)
    replace K1 := aside (blk_on K1.out bb)
    obtain ⟨ba, hba⟩ : ∃ ba, w1.heap.size = ba := ⟨_, rfl⟩
    rw [hba] at SD2 ⊢
    clear hba B1 bb
    obtain ⟨rb, hrb⟩ : ∃ rb, w.heap.size = rb := ⟨_, rfl⟩
    have HRB := aside hrb
    rw [hrb] at K0 K1 ⊢
    clear hrb
    generalize (w1.alloc (.cells #[.slice a la ca] 32)).alloc (.cells #[.slice b lb cb] 32) = V at *
    have I0 := aside (show AbC w rb ba (ba + 1) a la ca A b lb cb B V from ⟨K0.out, K1.out, B3.out, SD2.out⟩)
    have HVV := aside (show w.heap.size ≤ V.heap.size from B3.out.size)
    clear K0 K1 B3
    have ownI : OwnFrom V.heap.size (fun (pre : List (En × En)) X => abP pre = true ∧ AbC w rb ba (ba + 1) a la ca A b lb cb B X) := fun s A Y row hs hg hr => ⟨hs.1, hs.2.own HVV.out hg hr⟩
    refine rangeO rfl (enters_of Try.func37 (by kernel_rfl) rfl) (side_seq SD2.out) KpS.t (fun W l o o' _ h ho => KpS.b W l o o' h ho) (Below.refl _ _) (fun _ => rfl)
      (fun (pre : List (En × En)) X => abP pre = true ∧ AbC w rb ba (ba + 1) a la ca A b lb cb B X) (fun c pre X => c = .ret ∧ abP pre = false ∧ X.heap[rb]? = some (.cells #[.bool false] 4 (0, 0)) ∧ X.heap[rb + 1]? = some (.cells #[.int .i64 0] 40 (0, 0)) ∧ Below w.heap.size w X) ownI (fun c s A Y row hs hg hr => ⟨hs.1, hs.2.1, cells_ownM hs.2.2.1 hg (fun r e => (hr r e).2), cells_ownM hs.2.2.2.1 hg (fun r e => (hr r e).2), ownFrom_below (β := Unit) (Nat.le_refl w.heap.size) HVV.out () A Y row hs.2.2.2.2 hg hr⟩) ⟨rfl, I0.out⟩
      (fun x a' X => ∃ eb : Nat, a' = ⟨#[.slice a la ca, .slice b lb cb, undef, undef, .pointer (some ⟨rb, 0, none⟩), .pointer (some ⟨rb + 1, 0, none⟩), .int .i64 0, .pointer (some ⟨eb, 0, none⟩), .pointer (some ⟨eb + 1, 0, none⟩), .slice a la ca, .slice b lb cb, .int .i64 0, .int .i64 0, .bool false, undef, .slice a la ca, .slice b lb cb, .func (.func 37) #[] #[.pointer (some ⟨ba, 0, none⟩), .pointer (some ⟨ba + 1, 0, none⟩)], .agg #[.string x.1.k, .int .i64 x.1.c, .int .i64 x.1.n, .string x.1.v, .bool x.1.d], .agg #[.string x.2.k, .int .i64 x.2.c, .int .i64 x.2.n, .string x.2.v, .bool x.2.d], undef, undef, undef], []⟩ ∧ X.heap[eb]? = some (.cells #[.string x.1.k, .int .i64 x.1.c, .int .i64 x.1.n, .string x.1.v, .bool x.1.d] 31 (0, 0)) ∧ X.heap[eb + 1]? = some (.cells #[.string x.2.k, .int .i64 x.2.c, .int .i64 x.2.n, .string x.2.v, .bool x.2.d] 31 (0, 0)))
      (fun x a' _ A Y row hs hg hr => by
        obtain ⟨eb, h1, h2, h3⟩ := hs
        exact ⟨eb, h1, cells_ownM h2 hg (fun r e => (hr r e).2), cells_ownM h3 hg (fun r e => (hr r e).2)⟩) ?assign ?body ?done ?stop
    case assign =>
      rintro l' pre x X K ⟨hp, hi⟩ hK
      dsimp only [encP]
      gi_wp2
      have bb := bthen (bnew X (.cells #[.string x.1.k, .int .i64 x.1.c, .int .i64 x.1.n, .string x.1.v, .bool x.1.d] 31)) (bnew _ (.cells #[.string x.2.k, .int .i64 x.2.c, .int .i64 x.2.n, .string x.2.v, .bool x.2.d] 31))
      have k2 := heap_alloc_new (X.alloc (.cells #[.string x.1.k, .int .i64 x.1.c, .int .i64 x.1.n, .string x.1.v, .bool x.1.d] 31)) (.cells #[.string x.2.k, .int .i64 x.2.c, .int .i64 x.2.n, .string x.2.v, .bool x.2.d] 31)
      rw [World.size_alloc] at k2
      exact hK _ _ (kf_below bb) (fun s => s.keep bb) ⟨hp, hi.keep bb⟩ ⟨X.heap.size, rfl, blk_on (heap_alloc_new X _) (bnew _ _), k2⟩
    case body =>
      rintro l' pre ⟨x, y⟩ a' X ⟨hp, hi⟩ ⟨eb, rfl, he, hf⟩ hlen
      dsimp only at he hf ⊢
      have HLP := aside hi
      have HPP := aside hp
      obtain ⟨⟨e0, e1, e2, e3, e4⟩, -⟩ := box5 he
      obtain ⟨⟨f0, f1, f2, f3, f4⟩, -⟩ := box5 hf
      clear hp hi he hf hlen
      cases hq : En.newer y x
      · have CN := aside (fun W => newer_en y x W hq)
        have HSN := aside (show abP (pre ++ [(x, y)]) = true from by rw [abP_snoc, HPP.out]; simp [hq])
        clear hq
        gi_wp2_with fail
        refine ⟨trivial, ?_⟩
        refine (CallsIn.inRound l' (callsIn_wide.2 (CN.out _))).mono ?_
        rintro e X1 ⟨rfl, b1⟩
        have BX := aside b1
        clear b1 e0 e1 e2 e3 e4 f0 f1 f2 f3 f4
        gi_wp2
        exact ⟨kf_below BX.out, fun s => s.keep BX.out, HSN.out, HLP.out.keep BX.out⟩
      · have CN := aside (fun W => newer_en y x W hq)
        have HSN := aside (show abP (pre ++ [(x, y)]) = false from by rw [abP_snoc]; simp [hq])
        clear hq
        gi_wp2_with fail
        refine ⟨trivial, ?_⟩
        refine (CallsIn.inRound l' (callsIn_wide.2 (CN.out _))).mono ?_
        rintro e X1 ⟨rfl, b1⟩
        have BX := aside b1
        replace HLP := aside (HLP.out.keep b1)
        clear b1 e0 e1 e2 e3 e4 f0 f1 f2 f3 f4
        have c0 := cell_one HLP.out.r0
        have c1 := cell_one HLP.out.r1
        have z0 := frozen_one HLP.out.r0
        have z1 := frozen_one HLP.out.r1
        have TS := aside (two_set HLP.out.r0 HLP.out.r1 (.bool false) (.int .i64 0))
        have TB := aside ((HLP.out.below.setCell (p := ⟨rb, 0, none⟩) (by show w.heap.size ≤ rb; rw [HRB.out]; exact Nat.le_refl _) (.bool false)).setCell (p := ⟨rb + 1, 0, none⟩) (by show w.heap.size ≤ rb + 1; rw [HRB.out]; omega) (.int .i64 0))
        gi_wp2
        exact ⟨(kf_below BX.out).trans (((KeepsOthers.setCell _ _ _).from _).trans ((KeepsOthers.setCell _ _ _).from _)), rfl, HSN.out, TS.out.1, TS.out.2, TB.out⟩
    case done =>
      rintro D xs X hD rfl ⟨hp, hi⟩ hK
      have c0 := cell_one hi.r0
      have c1 := cell_one hi.r1
      have z0 := frozen_one hi.r0
      have z1 := frozen_one hi.r1
      have HI := aside hi
      have HPP := aside hp
      have TS := aside (two_set hi.r0 hi.r1 (.bool true) (.int .i64 0))
      have TB := aside ((hi.below.setCell (p := ⟨rb, 0, none⟩) (by show w.heap.size ≤ rb; rw [HRB.out]; exact Nat.le_refl _) (.bool true)).setCell (p := ⟨rb + 1, 0, none⟩) (by show w.heap.size ≤ rb + 1; rw [HRB.out]; omega) (.int .i64 0))
      clear hi hp
      gi_wp2
      have hK1 := (KeepsOthers.setCell X ⟨rb, 0, none⟩ (.bool true)).same D _ hK rfl
      have hK2 := (KeepsOthers.setCell (X.setCell ⟨rb, 0, none⟩ (.bool true)) ⟨rb + 1, 0, none⟩ (.int .i64 0)).same D _ hK1 rfl
      refine ⟨by simp, .inl ⟨_, _, rfl, run_takeDeferred hK2, ?_⟩⟩
      have d0 := cell_kept (cell_one TS.out.1) (grownBy_putObj' _ D (.deferred none)) (fun r e => by cases e; exact ⟨_, hK2, rfl⟩)
      have d1 := cell_kept (cell_one TS.out.2) (grownBy_putObj' _ D (.deferred none)) (fun r e => by cases e; exact ⟨_, hK2, rfl⟩)
      refine ⟨.tuple #[.bool true, .int .i64 0], by simp [results, Try.f15, go_sem, d0, d1], by rw [HPP.out], ?_⟩
      exact ownFrom_below (β := Unit) (Nat.le_refl w.heap.size) HVV.out () _ _ (some D) TB.out (grownBy_putObj' _ D (.deferred none)) (fun r e => by cases e; exact ⟨hD, _, hK2, rfl⟩)
    case stop =>
      rintro D c pre X hD ⟨r, hr⟩ ⟨rfl, hp, h1, h2, h3⟩ hK
      gi_wp2
      refine ⟨by simp, .inl ⟨_, _, rfl, run_takeDeferred hK, ?_⟩⟩
      have d0 := cell_kept (cell_one h1) (grownBy_putObj' _ D (.deferred none)) (fun r e => by cases e; exact ⟨_, hK, rfl⟩)
      have d1 := cell_kept (cell_one h2) (grownBy_putObj' _ D (.deferred none)) (fun r e => by cases e; exact ⟨_, hK, rfl⟩)
      refine ⟨.tuple #[.bool false, .int .i64 0], by simp [results, Try.f15, go_sem, d0, d1], by rw [abP_part hr hp], ?_⟩
      exact ownFrom_below (β := Unit) (Nat.le_refl w.heap.size) HVV.out () _ _ (some D) h3 (grownBy_putObj' _ D (.deferred none)) (fun r e => by cases e; exact ⟨hD, _, hK, rfl⟩)
  · unfold aboveV
    rw [if_neg h0]
    have hqb : (q == 0) = false := by simpa using h0
    clear h0
    refine (callsIn_wide (n := 5)).1 ?_
    refine callsIn_of_wp_marks Try.func15 rfl trivial ?_ rfl
    simp only [Try.ntmps15, List.size_toArray, List.length_cons, List.length_nil, Nat.reduceAdd, Nat.reduceSub, Array.replicate_succ, Array.replicate_zero, List.push_toArray, List.append_toArray, List.nil_append, List.cons_append]
    gi_wp2_with fail
    refine ⟨trivial, ?_⟩
    refine (callsIn_wide.2 (CK.out _ BW.out)).mono ?_
    rintro e w1 ⟨rfl, b1⟩
    have B1 := aside (bthen BW.out b1)
    replace K0 := aside (blk_on K0.out b1)
    replace K1 := aside (blk_on K1.out b1)
    have c0 := cell_one K0.out
    have c1 := cell_one K1.out
    have z0 := frozen_one K0.out
    have z1 := frozen_one K1.out
    clear b1 CK BW
    have TS := aside (two_set K0.out K1.out (.bool false) (.int .i64 q))
    have TB := aside ((B1.out.setCell (p := ⟨w.heap.size, 0, none⟩) (Nat.le_refl _) (.bool false)).setCell (p := ⟨w.heap.size + 1, 0, none⟩) (Nat.le_succ _) (.int .i64 q))
    gi_wp2
    have d0 := cell_one TS.out.1
    have d1 := cell_one TS.out.2
    exact ⟨.tuple #[.bool false, .int .i64 q], by simp [results, Try.f15, go_sem, d0, d1], rfl, TB.out⟩
end Go.Proofs.Ytfkdhambbpkmpaa

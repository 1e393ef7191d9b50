/-
  Best, the code's and the document's own, by contracts; the plain laws of the better of two.
-/
import Derived.Test.YtfkdhambbpkmpaaDoorYIBest
namespace Go.Proofs.YtfkdhambbpkmpaaDoor
open Go.RowKit
set_option linter.unusedVariables false
/-- The better of the two. -/
def En.best (a b : En) : En := bif En.newer b a then b else a
theorem best_eqs {a b r : En} {q : Bool} (hq : En.newer b a = q) (h : En.best a b = r) : r = bif q then b else a := by rw [← h, ← hq]; rfl
/-- A block of five cells: what they are, and that they may be written. -/
theorem box5 {w : World} {i : Nat} {a b c d e : Value} {T : TypeId} (h : w.heap[i]? = some (.cells #[a, b, c, d, e] T (0, 0))) :
    (w.cell? ⟨i, 0, none⟩ = some a ∧ w.cell? ⟨i, 1, none⟩ = some b ∧ w.cell? ⟨i, 2, none⟩ = some c ∧ w.cell? ⟨i, 3, none⟩ = some d ∧ w.cell? ⟨i, 4, none⟩ = some e) ∧
    w.frozen? ⟨i, 0, none⟩ = false ∧ w.frozen? ⟨i, 1, none⟩ = false ∧ w.frozen? ⟨i, 2, none⟩ = false ∧ w.frozen? ⟨i, 3, none⟩ = false ∧ w.frozen? ⟨i, 4, none⟩ = false :=
  ⟨⟨by rw [cell_of_row _ _ 0 _ _ _ h]; rfl, by rw [cell_of_row _ _ 1 _ _ _ h]; rfl, by rw [cell_of_row _ _ 2 _ _ _ h]; rfl, by rw [cell_of_row _ _ 3 _ _ _ h]; rfl, by rw [cell_of_row _ _ 4 _ _ _ h]; rfl⟩,
    frozen_of_row _ _ 0 _ _ h, frozen_of_row _ _ 1 _ _ h, frozen_of_row _ _ 2 _ _ h, frozen_of_row _ _ 3 _ _ h, frozen_of_row _ _ 4 _ _ h⟩
theorem set5 {w W : World} {i : Nat} (b : Below w.heap.size w W) (hi : w.heap.size ≤ i) (u0 u1 u2 u3 u4 : Value) :
    Below w.heap.size w (((((W.setCell ⟨i, 0, none⟩ u0).setCell ⟨i, 1, none⟩ u1).setCell ⟨i, 2, none⟩ u2).setCell ⟨i, 3, none⟩ u3).setCell ⟨i, 4, none⟩ u4) :=
  ((((b.setCell (p := ⟨i, 0, none⟩) hi _).setCell (p := ⟨i, 1, none⟩) hi _).setCell (p := ⟨i, 2, none⟩) hi _).setCell (p := ⟨i, 3, none⟩) hi _).setCell (p := ⟨i, 4, none⟩) hi _
set_option maxHeartbeats 1600000 in
theorem best_any (ak : ByteArray) (ac an : Int) (av : ByteArray) (ad : Bool) (bk : ByteArray) (bc bn : Int) (bv : ByteArray) (bd : Bool) (rk : ByteArray) (rc rn : Int) (rv : ByteArray) (rd : Bool) (w : World) (h : En.best ⟨ak, ac, an, av, ad⟩ ⟨bk, bc, bn, bv, bd⟩ = ⟨rk, rc, rn, rv, rd⟩) :
    Calls Tryd.prog 30 #[.agg #[.string ak, .int .i64 ac, .int .i64 an, .string av, .bool ad], .agg #[.string bk, .int .i64 bc, .int .i64 bn, .string bv, .bool bd]] w fun e w' => e = .returned (.agg #[.string rk, .int .i64 rc, .int .i64 rn, .string rv, .bool rd]) ∧ Below w.heap.size w w' := by
  cases hq : En.newer ⟨bk, bc, bn, bv, bd⟩ ⟨ak, ac, an, av, ad⟩
  · have hr := best_eqs hq h
    simp only [cond, En.mk.injEq] at hr
    obtain ⟨rfl, rfl, rfl, rfl, rfl⟩ := hr
    have C := aside (fun w => newer_any _ _ _ _ _ _ _ _ _ _ _ w hq)
    clear hq h
    go_enter Tryd.func30, Tryd.ntmps30
    go_wp2_with fail
    refine (C.out _).mono ?_
    rintro e w1 ⟨rfl, b1⟩
    have kA := blk_on (blk_on (blk_on (heap_alloc_new w (.cells #[.string rk, .int .i64 rc, .int .i64 rn, .string rv, .bool rd] 55)) (bnew _ (.cells #[.string bk, .int .i64 bc, .int .i64 bn, .string bv, .bool bd] 55))) (bnew _ _)) b1
    have kR := blk_on (heap_alloc_new ((w.alloc (.cells #[.string rk, .int .i64 rc, .int .i64 rn, .string rv, .bool rd] 55)).alloc (.cells #[.string bk, .int .i64 bc, .int .i64 bn, .string bv, .bool bd] 55)) (.cells #[.string ⟨#[]⟩, .int .i64 0, .int .i64 0, .string ⟨#[]⟩, .bool false] 55)) b1
    rw [World.size_alloc, World.size_alloc] at kR
    have b0 := bthen (bthen (bthen (bnew w _) (bnew _ _)) (bnew _ _)) b1
    obtain ⟨⟨r0, r1, r2, r3, r4⟩, -⟩ := box5 kA
    obtain ⟨⟨s0, s1, s2, s3, s4⟩, f0, f1, f2, f3, f4⟩ := box5 kR
    have n1 := (Array.getElem?_eq_some_iff.1 kR).1
    clear kA kR b1
    go_wp2
    refine bodyPost_ret (v := .agg #[.string rk, .int .i64 rc, .int .i64 rn, .string rv, .bool rd]) (by simp [results, Tryd.results30, go_sem, s0, s1, s2, s3, s4]) rfl ⟨rfl, ?_⟩
    exact set5 b0 (by omega) _ _ _ _ _
  · have hr := best_eqs hq h
    simp only [cond, En.mk.injEq] at hr
    obtain ⟨rfl, rfl, rfl, rfl, rfl⟩ := hr
    have C := aside (fun w => newer_any _ _ _ _ _ _ _ _ _ _ _ w hq)
    clear hq h
    go_enter Tryd.func30, Tryd.ntmps30
    go_wp2_with fail
    refine (C.out _).mono ?_
    rintro e w1 ⟨rfl, b1⟩
    have kA := blk_on (blk_on (heap_alloc_new (w.alloc (.cells #[.string ak, .int .i64 ac, .int .i64 an, .string av, .bool ad] 55)) (.cells #[.string rk, .int .i64 rc, .int .i64 rn, .string rv, .bool rd] 55)) (bnew _ _)) b1
    rw [World.size_alloc] at kA
    have kR := blk_on (heap_alloc_new ((w.alloc (.cells #[.string ak, .int .i64 ac, .int .i64 an, .string av, .bool ad] 55)).alloc (.cells #[.string rk, .int .i64 rc, .int .i64 rn, .string rv, .bool rd] 55)) (.cells #[.string ⟨#[]⟩, .int .i64 0, .int .i64 0, .string ⟨#[]⟩, .bool false] 55)) b1
    rw [World.size_alloc, World.size_alloc] at kR
    have b0 := bthen (bthen (bthen (bnew w _) (bnew _ _)) (bnew _ _)) b1
    obtain ⟨⟨r0, r1, r2, r3, r4⟩, -⟩ := box5 kA
    obtain ⟨⟨s0, s1, s2, s3, s4⟩, f0, f1, f2, f3, f4⟩ := box5 kR
    have n1 := (Array.getElem?_eq_some_iff.1 kR).1
    clear kA kR b1
    go_wp2
    refine bodyPost_ret (v := .agg #[.string rk, .int .i64 rc, .int .i64 rn, .string rv, .bool rd]) (by simp [results, Tryd.results30, go_sem, s0, s1, s2, s3, s4]) rfl ⟨rfl, ?_⟩
    exact set5 b0 (by omega) _ _ _ _ _
set_option maxHeartbeats 1600000 in
theorem bestRef_any (ak : ByteArray) (ac an : Int) (av : ByteArray) (ad : Bool) (bk : ByteArray) (bc bn : Int) (bv : ByteArray) (bd : Bool) (rk : ByteArray) (rc rn : Int) (rv : ByteArray) (rd : Bool) (w : World) (h : En.best ⟨ak, ac, an, av, ad⟩ ⟨bk, bc, bn, bv, bd⟩ = ⟨rk, rc, rn, rv, rd⟩) :
    Calls Tryd.prog 38 #[.agg #[.string ak, .int .i64 ac, .int .i64 an, .string av, .bool ad], .agg #[.string bk, .int .i64 bc, .int .i64 bn, .string bv, .bool bd]] w fun e w' => e = .returned (.agg #[.string rk, .int .i64 rc, .int .i64 rn, .string rv, .bool rd]) ∧ Below w.heap.size w w' := by
  cases hq : En.newer ⟨bk, bc, bn, bv, bd⟩ ⟨ak, ac, an, av, ad⟩
  · have hr := best_eqs hq h
    simp only [cond, En.mk.injEq] at hr
    obtain ⟨rfl, rfl, rfl, rfl, rfl⟩ := hr
    have C := aside (fun w => newerRef_any _ _ _ _ _ _ _ _ _ _ _ w hq)
    clear hq h
    go_enter Tryd.func38, Tryd.ntmps38
    go_wp2_with fail
    refine (C.out _).mono ?_
    rintro e w1 ⟨rfl, b1⟩
    have kA := blk_on (blk_on (blk_on (heap_alloc_new w (.cells #[.string rk, .int .i64 rc, .int .i64 rn, .string rv, .bool rd] 55)) (bnew _ (.cells #[.string bk, .int .i64 bc, .int .i64 bn, .string bv, .bool bd] 55))) (bnew _ _)) b1
    have kR := blk_on (heap_alloc_new ((w.alloc (.cells #[.string rk, .int .i64 rc, .int .i64 rn, .string rv, .bool rd] 55)).alloc (.cells #[.string bk, .int .i64 bc, .int .i64 bn, .string bv, .bool bd] 55)) (.cells #[.string ⟨#[]⟩, .int .i64 0, .int .i64 0, .string ⟨#[]⟩, .bool false] 55)) b1
    rw [World.size_alloc, World.size_alloc] at kR
    have b0 := bthen (bthen (bthen (bnew w _) (bnew _ _)) (bnew _ _)) b1
    obtain ⟨⟨r0, r1, r2, r3, r4⟩, -⟩ := box5 kA
    obtain ⟨⟨s0, s1, s2, s3, s4⟩, f0, f1, f2, f3, f4⟩ := box5 kR
    have n1 := (Array.getElem?_eq_some_iff.1 kR).1
    clear kA kR b1
    go_wp2
    refine bodyPost_ret (v := .agg #[.string rk, .int .i64 rc, .int .i64 rn, .string rv, .bool rd]) (by simp [results, Tryd.results38, go_sem, s0, s1, s2, s3, s4]) rfl ⟨rfl, ?_⟩
    exact set5 b0 (by omega) _ _ _ _ _
  · have hr := best_eqs hq h
    simp only [cond, En.mk.injEq] at hr
    obtain ⟨rfl, rfl, rfl, rfl, rfl⟩ := hr
    have C := aside (fun w => newerRef_any _ _ _ _ _ _ _ _ _ _ _ w hq)
    clear hq h
    go_enter Tryd.func38, Tryd.ntmps38
    go_wp2_with fail
    refine (C.out _).mono ?_
    rintro e w1 ⟨rfl, b1⟩
    have kA := blk_on (blk_on (heap_alloc_new (w.alloc (.cells #[.string ak, .int .i64 ac, .int .i64 an, .string av, .bool ad] 55)) (.cells #[.string rk, .int .i64 rc, .int .i64 rn, .string rv, .bool rd] 55)) (bnew _ _)) b1
    rw [World.size_alloc] at kA
    have kR := blk_on (heap_alloc_new ((w.alloc (.cells #[.string ak, .int .i64 ac, .int .i64 an, .string av, .bool ad] 55)).alloc (.cells #[.string rk, .int .i64 rc, .int .i64 rn, .string rv, .bool rd] 55)) (.cells #[.string ⟨#[]⟩, .int .i64 0, .int .i64 0, .string ⟨#[]⟩, .bool false] 55)) b1
    rw [World.size_alloc, World.size_alloc] at kR
    have b0 := bthen (bthen (bthen (bnew w _) (bnew _ _)) (bnew _ _)) b1
    obtain ⟨⟨r0, r1, r2, r3, r4⟩, -⟩ := box5 kA
    obtain ⟨⟨s0, s1, s2, s3, s4⟩, f0, f1, f2, f3, f4⟩ := box5 kR
    have n1 := (Array.getElem?_eq_some_iff.1 kR).1
    clear kA kR b1
    go_wp2
    refine bodyPost_ret (v := .agg #[.string rk, .int .i64 rc, .int .i64 rn, .string rv, .bool rd]) (by simp [results, Tryd.results38, go_sem, s0, s1, s2, s3, s4]) rfl ⟨rfl, ?_⟩
    exact set5 b0 (by omega) _ _ _ _ _
theorem best_yes {a b : En} (h : b.c > a.c ∨ (b.c = a.c ∧ a.n < b.n)) : En.best a b = b := by
  unfold En.best; rw [(newer_iff b a).2 (by omega)]; rfl
theorem best_no {a b : En} (h : ¬ (b.c > a.c ∨ (b.c = a.c ∧ a.n < b.n))) : En.best a b = a := by
  unfold En.best; rw [(newer_not b a).2 (by omega)]; rfl
theorem best_two (a b : En) : (En.best a b = b ∧ (b.c > a.c ∨ (b.c = a.c ∧ a.n < b.n))) ∨ (En.best a b = a ∧ ¬ (b.c > a.c ∨ (b.c = a.c ∧ a.n < b.n))) := by
  by_cases h : b.c > a.c ∨ (b.c = a.c ∧ a.n < b.n)
  · exact .inl ⟨best_yes h, h⟩
  · exact .inr ⟨best_no h, h⟩
theorem best_assoc (a b c : En) : En.best (En.best a b) c = En.best a (En.best b c) := by
  rcases best_two a b with ⟨e1, h1⟩ | ⟨e1, h1⟩ <;> rcases best_two b c with ⟨e2, h2⟩ | ⟨e2, h2⟩ <;> rw [e1, e2]
  · rw [best_yes (by omega)]
  · exact e1.symm
  · rw [e1, best_no (by omega)]
end Go.Proofs.YtfkdhambbpkmpaaDoor

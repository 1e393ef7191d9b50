/-
  long, Newer and Best, the code's and the document's own, by contracts; and the plain laws of the better of two.
-/
import Derived.Test.YtfkdhambbpkmpaaYIEnt
import Derived.Test.YtfkdhambbpkmpaaYLOrder
namespace Go.Proofs.Ytfkdhambbpkmpaa
open Go.RowKit
/-- Whether a is newer than b. -/
def En.newer (a b : En) : Bool := decide (0 < Vs.cmp a.c a.n b.c b.n)

set_option maxHeartbeats 800000 in
theorem newer_any (ak : ByteArray) (ac an : Int) (av : ByteArray) (ad : Bool) (bk : ByteArray) (bc bn : Int) (bv : ByteArray) (bd : Bool) (q : Bool) (w : World) (h : En.newer ⟨ak, ac, an, av, ad⟩ ⟨bk, bc, bn, bv, bd⟩ = q) :
    Calls Try.prog 31 #[.agg #[.string ak, .int .i64 ac, .int .i64 an, .string av, .bool ad], .agg #[.string bk, .int .i64 bc, .int .i64 bn, .string bv, .bool bd]] w fun e w' => e = .returned (.bool q) ∧ Below w.heap.size w w' := by
  obtain ⟨x, hx⟩ : ∃ x, Vs.cmp ac an bc bn = x := ⟨_, rfl⟩
  have H := aside h
  have C := aside (fun w => compare_at hx w)
  have HX := aside hx
  clear h hx
  go_enter Try.func31, Try.ntmps31
  go_wp2_with fail
  refine (C.out _).mono ?_
  rintro e w1 ⟨rfl, b1⟩
  have b0 := bthen (bthen (bnew w _) (bnew _ _)) b1
  clear b1
  go_wp2
  go_ret
  refine ⟨ret_bool ?_, b0⟩
  rw [← H.out, ← HX.out]; rfl

set_option maxHeartbeats 800000 in
theorem newerRef_any (ak : ByteArray) (ac an : Int) (av : ByteArray) (ad : Bool) (bk : ByteArray) (bc bn : Int) (bv : ByteArray) (bd : Bool) (q : Bool) (w : World) (h : En.newer ⟨ak, ac, an, av, ad⟩ ⟨bk, bc, bn, bv, bd⟩ = q) :
    Calls Try.prog 35 #[.agg #[.string ak, .int .i64 ac, .int .i64 an, .string av, .bool ad], .agg #[.string bk, .int .i64 bc, .int .i64 bn, .string bv, .bool bd]] w fun e w' => e = .returned (.bool q) ∧ Below w.heap.size w w' := by
  obtain ⟨x, hx⟩ : ∃ x, Vs.cmp ac an bc bn = x := ⟨_, rfl⟩
  have H := aside h
  have C := aside (fun w => compareRef_at hx w)
  have HX := aside hx
  clear h hx
  go_enter Try.func35, Try.ntmps35
  go_wp2_with fail
  refine (C.out _).mono ?_
  rintro e w1 ⟨rfl, b1⟩
  have b0 := bthen (bthen (bnew w _) (bnew _ _)) b1
  clear b1
  go_wp2
  go_ret
  refine ⟨ret_bool ?_, b0⟩
  rw [← H.out, ← HX.out]; rfl

theorem newer_iff (a b : En) : En.newer a b = true ↔ b.c < a.c ∨ (a.c = b.c ∧ b.n < a.n) := by
  unfold En.newer
  rw [decide_eq_true_iff]
  rcases cmp_three a.c a.n b.c b.n with h | h | h <;> omega

theorem newer_not (a b : En) : En.newer a b = false ↔ ¬ (b.c < a.c ∨ (a.c = b.c ∧ b.n < a.n)) := by
  rw [← newer_iff]; simp

end Go.Proofs.Ytfkdhambbpkmpaa

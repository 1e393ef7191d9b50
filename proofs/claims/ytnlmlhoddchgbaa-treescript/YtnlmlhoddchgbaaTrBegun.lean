/-
  The world that a script begins with.
-/
import Derived.Test.YtnlmlhoddchgbaaTrDoes
import Derived.Test.YtnlmlhoddchgbaaTrSame
namespace Go.Proofs.Ytnlmlhoddchgbaa
open Go.RowKit
set_option linter.unusedVariables false

theorem own_one {W : World} {B g : Nat} {e : TypeId} {v : Value} (h : W.heap[g]? = some (.cells #[v] e (0, 0))) (hB : B ≤ g) : W.ownsRow B e 1 (.slice (some ⟨g, 0, none⟩) 1 1) 1 [v] :=
  ⟨by simp, .inr ⟨g, 1, #[v], rfl, hB, h, Nat.le_refl _, by decide, by simp, by simp⟩⟩

theorem rt_nil {W : World} {rb : Nat} (h : W.heap[rb]? = some (.cells #[.slice none 0 0] 83 (0, 0))) : RT W rb [] :=
  ⟨_, h, World.ownsRow_nil _ _ _ _, (fun e he => nomatch he), by decide⟩

set_option maxHeartbeats 3200000 in
set_option maxRecDepth 100000 in
theorem begun_any (w : World) : Calls Try.prog 9 #[] w fun e w' => ∃ wb ga gb P, e = .returned (.pointer (some ⟨wb, 0, none⟩)) ∧ WS w w' wb ga 1 gb 1 P 1 0 := by
  go_enter Try.func9, Try.ntmps9
  go_wp2_with fail
  refine (zero_any _).mono ?_
  rintro e w1 ⟨rfl, b1⟩
  have B1 := aside b1
  clear b1
  go_wp2_with fail
  refine (ynewM (.func 15) #[] w1).mono ?_
  rintro e w2 ⟨tb, rfl, t2, b2, l2⟩
  have T2 := aside t2
  have B2 := aside (bthen B1.out b2)
  have L2 := aside (show w.heap.size ≤ tb from by have := B1.out.size; omega)
  clear t2 b2 l2 B1
  go_wp2
  go_ret
  have e3 : w2.heap.size < w2.heap.size + 1 := by omega
  obtain ⟨o1, ho1⟩ : ∃ o, o = Obj.cells #[.pointer (some ⟨tb, 0, none⟩)] 37 (0, 0) := ⟨_, rfl⟩
  obtain ⟨o2, ho2⟩ : ∃ o, o = Obj.cells #[.slice none 0 0] 83 (0, 0) := ⟨_, rfl⟩
  obtain ⟨o3, ho3⟩ : ∃ o, o = Obj.cells #[.pointer (some ⟨w2.heap.size + 1, 0, none⟩)] 38 (0, 0) := ⟨_, rfl⟩
  obtain ⟨o4, ho4⟩ : ∃ o, o = Obj.cells #[.slice (some ⟨w2.heap.size, 0, none⟩) 1 1, .slice (some ⟨w2.heap.size + 1 + 1, 0, none⟩) 1 1] 35 (0, 0) := ⟨_, rfl⟩
  have c4 := bnew (((w2.alloc o1).alloc o2).alloc o3) o4
  have c3 := bthen (bnew ((w2.alloc o1).alloc o2) o3) c4
  have c2 := bthen (bnew (w2.alloc o1) o2) c3
  have c1 := bthen (bnew w2 o1) c2
  have d1 := blk_on (heap_alloc_new w2 o1) c2
  have d2 := blk_on (heap_alloc_new (w2.alloc o1) o2) c3
  have d3 := blk_on (heap_alloc_new ((w2.alloc o1).alloc o2) o3) c4
  have d4 := heap_alloc_new (((w2.alloc o1).alloc o2).alloc o3) o4
  simp only [World.size_alloc] at d2 d3 d4
  have hs := B2.out.size
  have W0 : WS w ((((w2.alloc o1).alloc o2).alloc o3).alloc o4) (w2.heap.size + 1 + 1 + 1) w2.heap.size 1 (w2.heap.size + 1 + 1) 1 (fun _ => ⟨tb, .nil, w2.heap.size + 1, []⟩) 1 0 := by
    subst ho1 ho2 ho3 ho4
    refine ⟨bthen B2.out c1, d4, own_one d1 hs, own_one d3 (by omega), by omega, fun j hj => ⟨⟨T2.out.below c1, Gd.nil _, rt_nil d2, rfl⟩, L2.out, by (show w.heap.size ≤ w2.heap.size + 1; omega)⟩, fun i j hi hj e => by omega, Nat.le_refl _, by omega⟩
  subst ho1 ho2 ho3 ho4
  exact ⟨_, _, _, _, rfl, W0⟩

end Go.Proofs.Ytnlmlhoddchgbaa

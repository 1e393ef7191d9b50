/-
  A part read by the reader of frames.
-/
import Derived.Test.YtbnppmkdhnpdfaaBy5
import Derived.Deep.CutBlock
import Derived.Deep.DeepCutAuto
namespace Go.Proofs.Ytbnppmkdhnpdfaa
open Go.RowKit
set_option linter.unusedVariables false
set_option maxRecDepth 100000 in
set_option maxHeartbeats 3200000 in
theorem rpart_0 {br : Nat} {s : ByteArray} {l : List UInt8} {w : World} {p p1 p2 : Nat} {e e1 e2 : Int} {lo hi : ByteArray} {op : Bool} (h : OneR br s l p e w) (h1 : numSt l p e 3 = (0, p1, e1)) (h2 : keysSt l p1 e1 = ((lo, hi, op), p2, e2)) :
    Calls Try.prog 58 #[.agg #[.pointer (some ⟨br, 0, none⟩)]] w fun r w' => ∃ a' n' c', r = .returned (.agg #[.int .i64 0, .string lo, .string hi, .bool op, .int .i64 0, .int .u64 0, .int .u64 0, .slice a' n' c']) ∧ w'.ownsRow w.heap.size 50 5 (.slice a' n' c') n' (entCells []) ∧ OneR br s l p2 (failOf e2 114) w' ∧ Keeps (fun x => x = br) w w' := by
  have C1 := aside (fun w (h : OneR br s l p e w) => one_num_at h1 h)
  have C2 := aside (fun w (h : OneR br s l p1 e1 w) => rkeys_at h h2)
  have C3 := aside (fun w (h : OneR br s l p2 e2 w) => one_fail_at (x := 114) rfl h)
  clear h1 h2
  have z0 := heap_alloc_new w (.cells #[.pointer (some ⟨br, 0, none⟩)] 72)
  have z1 := heap_alloc_new (w.alloc (.cells #[.pointer (some ⟨br, 0, none⟩)] 72)) (.cells #[.int .i64 0, .string ⟨#[]⟩, .string ⟨#[]⟩, .bool false, .int .i64 0, .int .u64 0, .int .u64 0, .slice none 0 0] 46)
  simp only [World.size_alloc] at z1
  replace z0 := blk_on z0 (bnew _ (.cells #[.int .i64 0, .string ⟨#[]⟩, .string ⟨#[]⟩, .bool false, .int .i64 0, .int .u64 0, .int .u64 0, .slice none 0 0] 46))
  have z2 := heap_alloc_new ((w.alloc (.cells #[.pointer (some ⟨br, 0, none⟩)] 72)).alloc (.cells #[.int .i64 0, .string ⟨#[]⟩, .string ⟨#[]⟩, .bool false, .int .i64 0, .int .u64 0, .int .u64 0, .slice none 0 0] 46)) (.cells #[.int .i64 0, .string ⟨#[]⟩, .string ⟨#[]⟩, .bool false, .int .i64 0, .int .u64 0, .int .u64 0, .slice none 0 0] 46)
  simp only [World.size_alloc] at z2
  replace z0 := blk_on z0 (bnew _ (.cells #[.int .i64 0, .string ⟨#[]⟩, .string ⟨#[]⟩, .bool false, .int .i64 0, .int .u64 0, .int .u64 0, .slice none 0 0] 46))
  replace z1 := blk_on z1 (bnew _ (.cells #[.int .i64 0, .string ⟨#[]⟩, .string ⟨#[]⟩, .bool false, .int .i64 0, .int .u64 0, .int .u64 0, .slice none 0 0] 46))
  have hk0 : Keeps (fun x => x = br) w (((w.alloc (.cells #[.pointer (some ⟨br, 0, none⟩)] 72)).alloc (.cells #[.int .i64 0, .string ⟨#[]⟩, .string ⟨#[]⟩, .bool false, .int .i64 0, .int .u64 0, .int .u64 0, .slice none 0 0] 46)).alloc (.cells #[.int .i64 0, .string ⟨#[]⟩, .string ⟨#[]⟩, .bool false, .int .i64 0, .int .u64 0, .int .u64 0, .slice none 0 0] 46)) := (((Keeps.refl (fun x => x = br) w).alloc (.cells #[.pointer (some ⟨br, 0, none⟩)] 72)).alloc (.cells #[.int .i64 0, .string ⟨#[]⟩, .string ⟨#[]⟩, .bool false, .int .i64 0, .int .u64 0, .int .u64 0, .slice none 0 0] 46)).alloc (.cells #[.int .i64 0, .string ⟨#[]⟩, .string ⟨#[]⟩, .bool false, .int .i64 0, .int .u64 0, .int .u64 0, .slice none 0 0] 46)
  have hr0 := h.keep ((((Keeps.refl (fun _ => False) w).alloc (.cells #[.pointer (some ⟨br, 0, none⟩)] 72)).alloc (.cells #[.int .i64 0, .string ⟨#[]⟩, .string ⟨#[]⟩, .bool false, .int .i64 0, .int .u64 0, .int .u64 0, .slice none 0 0] 46)).alloc (.cells #[.int .i64 0, .string ⟨#[]⟩, .string ⟨#[]⟩, .bool false, .int .i64 0, .int .u64 0, .int .u64 0, .slice none 0 0] 46)) (fun h => h)
  have HBR := aside h.lt
  clear h
  have KB0 := aside z0
  have KB1 := aside z1
  have KB2 := aside z2
  have KK := aside hk0
  have RR := aside hr0
  clear hk0 hr0 z0 z1 z2
  go_enter Try.func58, Try.ntmps58
  go_wp2_with fail
  obtain ⟨i0, hi0⟩ : ∃ i0, w.heap.size = i0 := ⟨_, rfl⟩
  obtain ⟨i1, hi1⟩ : ∃ i1, i0 + 1 = i1 := ⟨_, rfl⟩
  obtain ⟨i2, hi2⟩ : ∃ i2, i1 + 1 = i2 := ⟨_, rfl⟩
  have HN := aside (show w.heap.size ≤ i0 ∧ br ≠ i0 ∧ w.heap.size ≤ i1 ∧ br ≠ i1 ∧ w.heap.size ≤ i2 ∧ br ≠ i2 ∧ i0 ≠ i1 ∧ i0 ≠ i2 ∧ i1 ≠ i0 ∧ i1 ≠ i2 ∧ i2 ≠ i0 ∧ i2 ≠ i1 from by have := HBR.out; omega)
  rw [hi0, hi1, hi2] at ⊢
  rw [hi0] at KB0
  rw [hi0, hi1] at KB1
  rw [hi0, hi1, hi2] at KB2
  clear hi0 hi1 hi2
  generalize ((w.alloc (.cells #[.pointer (some ⟨br, 0, none⟩)] 72)).alloc (.cells #[.int .i64 0, .string ⟨#[]⟩, .string ⟨#[]⟩, .bool false, .int .i64 0, .int .u64 0, .int .u64 0, .slice none 0 0] 46)).alloc (.cells #[.int .i64 0, .string ⟨#[]⟩, .string ⟨#[]⟩, .bool false, .int .i64 0, .int .u64 0, .int .u64 0, .slice none 0 0] 46) = X0 at KK RR KB0 KB1 KB2 ⊢
  refine (C1.out _ RR.out).mono ?_
  rintro r w1 ⟨rfl, R1, k1⟩
  replace KB0 := aside ((k1.block i0 (Array.getElem?_eq_some_iff.1 KB0.out).1 (fun h => by have := HN.out; omega)).trans KB0.out)
  replace KB1 := aside ((k1.block i1 (Array.getElem?_eq_some_iff.1 KB1.out).1 (fun h => by have := HN.out; omega)).trans KB1.out)
  replace KB2 := aside ((k1.block i2 (Array.getElem?_eq_some_iff.1 KB2.out).1 (fun h => by have := HN.out; omega)).trans KB2.out)
  replace KK := aside (KK.out.trans k1)
  replace RR := aside R1
  clear k1 R1
  have c2_0 : w1.cell? ⟨i2, 0, none⟩ = some (.int .i64 0) := by rw [cell_of_row _ _ 0 _ _ _ KB2.out]; rfl
  have f2_0 := frozen_of_row _ _ 0 _ _ KB2.out
  have c2_1 : w1.cell? ⟨i2, 1, none⟩ = some (.string ⟨#[]⟩) := by rw [cell_of_row _ _ 1 _ _ _ KB2.out]; rfl
  have f2_1 := frozen_of_row _ _ 1 _ _ KB2.out
  have c2_2 : w1.cell? ⟨i2, 2, none⟩ = some (.string ⟨#[]⟩) := by rw [cell_of_row _ _ 2 _ _ _ KB2.out]; rfl
  have f2_2 := frozen_of_row _ _ 2 _ _ KB2.out
  have c2_3 : w1.cell? ⟨i2, 3, none⟩ = some (.bool false) := by rw [cell_of_row _ _ 3 _ _ _ KB2.out]; rfl
  have f2_3 := frozen_of_row _ _ 3 _ _ KB2.out
  have c2_4 : w1.cell? ⟨i2, 4, none⟩ = some (.int .i64 0) := by rw [cell_of_row _ _ 4 _ _ _ KB2.out]; rfl
  have f2_4 := frozen_of_row _ _ 4 _ _ KB2.out
  have c2_5 : w1.cell? ⟨i2, 5, none⟩ = some (.int .u64 0) := by rw [cell_of_row _ _ 5 _ _ _ KB2.out]; rfl
  have f2_5 := frozen_of_row _ _ 5 _ _ KB2.out
  have c2_6 : w1.cell? ⟨i2, 6, none⟩ = some (.int .u64 0) := by rw [cell_of_row _ _ 6 _ _ _ KB2.out]; rfl
  have f2_6 := frozen_of_row _ _ 6 _ _ KB2.out
  have c2_7 : w1.cell? ⟨i2, 7, none⟩ = some (.slice none 0 0) := by rw [cell_of_row _ _ 7 _ _ _ KB2.out]; rfl
  have f2_7 := frozen_of_row _ _ 7 _ _ KB2.out
  go_upto_region 3 with fail
  clear c2_0 f2_0 c2_1 f2_1 c2_2 f2_2 c2_3 f2_3 c2_4 f2_4 c2_5 f2_5 c2_6 f2_6 c2_7 f2_7
  have sk := ((Keeps.refl (fun x => x = i2) w1).setCell (p := ⟨i2, 0, none⟩) (fun _ => rfl) (.int .i64 0))
  replace KB0 := aside ((sk.block i0 (Array.getElem?_eq_some_iff.1 KB0.out).1 (fun h => by have := HN.out; omega)).trans KB0.out)
  replace KB1 := aside ((sk.block i1 (Array.getElem?_eq_some_iff.1 KB1.out).1 (fun h => by have := HN.out; omega)).trans KB1.out)
  have kz := (heap_setCell_same _ i2 0 _ _ (.int .i64 0) KB2.out)
  simp only [List.setIfInBounds_toArray, List.set_cons_zero] at kz
  replace KB2 := aside kz
  replace RR := aside (RR.out.keep sk (fun h => by have := HN.out; omega))
  replace KK := aside (KK.out.setCell (p := ⟨i2, 0, none⟩) (fun h => by have := HN.out; simp only at h; omega) (.int .i64 0))
  clear sk kz
  generalize w1.setCell ⟨i2, 0, none⟩ (.int .i64 0) = X2 at KK RR KB0 KB1 KB2  ⊢
  have c0_0 : X2.cell? ⟨i0, 0, none⟩ = some (.pointer (some ⟨br, 0, none⟩)) := by rw [cell_of_row _ _ 0 _ _ _ KB0.out]; rfl
  go_wp2_with fail
  refine (C2.out _ RR.out).mono ?_
  rintro r w3 ⟨rfl, R1, k1⟩
  clear c0_0
  replace KB0 := aside ((k1.block i0 (Array.getElem?_eq_some_iff.1 KB0.out).1 (fun h => by have := HN.out; omega)).trans KB0.out)
  replace KB1 := aside ((k1.block i1 (Array.getElem?_eq_some_iff.1 KB1.out).1 (fun h => by have := HN.out; omega)).trans KB1.out)
  replace KB2 := aside ((k1.block i2 (Array.getElem?_eq_some_iff.1 KB2.out).1 (fun h => by have := HN.out; omega)).trans KB2.out)
  replace KK := aside (KK.out.trans k1)
  replace RR := aside R1
  clear k1 R1
  have c2_0 : w3.cell? ⟨i2, 0, none⟩ = some (.int .i64 0) := by rw [cell_of_row _ _ 0 _ _ _ KB2.out]; rfl
  have f2_0 := frozen_of_row _ _ 0 _ _ KB2.out
  have c2_1 : w3.cell? ⟨i2, 1, none⟩ = some (.string ⟨#[]⟩) := by rw [cell_of_row _ _ 1 _ _ _ KB2.out]; rfl
  have f2_1 := frozen_of_row _ _ 1 _ _ KB2.out
  have c2_2 : w3.cell? ⟨i2, 2, none⟩ = some (.string ⟨#[]⟩) := by rw [cell_of_row _ _ 2 _ _ _ KB2.out]; rfl
  have f2_2 := frozen_of_row _ _ 2 _ _ KB2.out
  have c2_3 : w3.cell? ⟨i2, 3, none⟩ = some (.bool false) := by rw [cell_of_row _ _ 3 _ _ _ KB2.out]; rfl
  have f2_3 := frozen_of_row _ _ 3 _ _ KB2.out
  have c2_4 : w3.cell? ⟨i2, 4, none⟩ = some (.int .i64 0) := by rw [cell_of_row _ _ 4 _ _ _ KB2.out]; rfl
  have f2_4 := frozen_of_row _ _ 4 _ _ KB2.out
  have c2_5 : w3.cell? ⟨i2, 5, none⟩ = some (.int .u64 0) := by rw [cell_of_row _ _ 5 _ _ _ KB2.out]; rfl
  have f2_5 := frozen_of_row _ _ 5 _ _ KB2.out
  have c2_6 : w3.cell? ⟨i2, 6, none⟩ = some (.int .u64 0) := by rw [cell_of_row _ _ 6 _ _ _ KB2.out]; rfl
  have f2_6 := frozen_of_row _ _ 6 _ _ KB2.out
  have c2_7 : w3.cell? ⟨i2, 7, none⟩ = some (.slice none 0 0) := by rw [cell_of_row _ _ 7 _ _ _ KB2.out]; rfl
  have f2_7 := frozen_of_row _ _ 7 _ _ KB2.out
  go_upto_region 4 with fail
  clear c2_0 f2_0 c2_1 f2_1 c2_2 f2_2 c2_3 f2_3 c2_4 f2_4 c2_5 f2_5 c2_6 f2_6 c2_7 f2_7
  have sk := ((((Keeps.refl (fun x => x = i2) w3).setCell (p := ⟨i2, 1, none⟩) (fun _ => rfl) (.string lo)).setCell (p := ⟨i2, 2, none⟩) (fun _ => rfl) (.string hi)).setCell (p := ⟨i2, 3, none⟩) (fun _ => rfl) (.bool op))
  replace KB0 := aside ((sk.block i0 (Array.getElem?_eq_some_iff.1 KB0.out).1 (fun h => by have := HN.out; omega)).trans KB0.out)
  replace KB1 := aside ((sk.block i1 (Array.getElem?_eq_some_iff.1 KB1.out).1 (fun h => by have := HN.out; omega)).trans KB1.out)
  have kz := (heap_setCell_same _ i2 3 _ _ (.bool op) (heap_setCell_same _ i2 2 _ _ (.string hi) (heap_setCell_same _ i2 1 _ _ (.string lo) KB2.out)))
  simp only [List.setIfInBounds_toArray, List.set_cons_zero, List.set_cons_succ] at kz
  replace KB2 := aside kz
  replace RR := aside (RR.out.keep sk (fun h => by have := HN.out; omega))
  replace KK := aside (((KK.out.setCell (p := ⟨i2, 1, none⟩) (fun h => by have := HN.out; simp only at h; omega) (.string lo)).setCell (p := ⟨i2, 2, none⟩) (fun h => by have := HN.out; simp only at h; omega) (.string hi)).setCell (p := ⟨i2, 3, none⟩) (fun h => by have := HN.out; simp only at h; omega) (.bool op))
  clear sk kz
  generalize ((w3.setCell ⟨i2, 1, none⟩ (.string lo)).setCell ⟨i2, 2, none⟩ (.string hi)).setCell ⟨i2, 3, none⟩ (.bool op) = X4 at KK RR KB0 KB1 KB2  ⊢
  have c2_0 : X4.cell? ⟨i2, 0, none⟩ = some (.int .i64 0) := by rw [cell_of_row _ _ 0 _ _ _ KB2.out]; rfl
  have c2_1 : X4.cell? ⟨i2, 1, none⟩ = some (.string lo) := by rw [cell_of_row _ _ 1 _ _ _ KB2.out]; rfl
  have c2_2 : X4.cell? ⟨i2, 2, none⟩ = some (.string hi) := by rw [cell_of_row _ _ 2 _ _ _ KB2.out]; rfl
  have c2_3 : X4.cell? ⟨i2, 3, none⟩ = some (.bool op) := by rw [cell_of_row _ _ 3 _ _ _ KB2.out]; rfl
  have c2_4 : X4.cell? ⟨i2, 4, none⟩ = some (.int .i64 0) := by rw [cell_of_row _ _ 4 _ _ _ KB2.out]; rfl
  have c2_5 : X4.cell? ⟨i2, 5, none⟩ = some (.int .u64 0) := by rw [cell_of_row _ _ 5 _ _ _ KB2.out]; rfl
  have c2_6 : X4.cell? ⟨i2, 6, none⟩ = some (.int .u64 0) := by rw [cell_of_row _ _ 6 _ _ _ KB2.out]; rfl
  have c2_7 : X4.cell? ⟨i2, 7, none⟩ = some (.slice none 0 0) := by rw [cell_of_row _ _ 7 _ _ _ KB2.out]; rfl
  have c0_0 : X4.cell? ⟨i0, 0, none⟩ = some (.pointer (some ⟨br, 0, none⟩)) := by rw [cell_of_row _ _ 0 _ _ _ KB0.out]; rfl
  go_wp2_with fail
  refine (C3.out _ RR.out).mono ?_
  rintro r w5 ⟨rfl, R1, k1⟩
  clear c2_0 c2_1 c2_2 c2_3 c2_4 c2_5 c2_6 c2_7 c0_0
  replace KB0 := aside ((k1.block i0 (Array.getElem?_eq_some_iff.1 KB0.out).1 (fun h => by have := HN.out; omega)).trans KB0.out)
  replace KB1 := aside ((k1.block i1 (Array.getElem?_eq_some_iff.1 KB1.out).1 (fun h => by have := HN.out; omega)).trans KB1.out)
  replace KB2 := aside ((k1.block i2 (Array.getElem?_eq_some_iff.1 KB2.out).1 (fun h => by have := HN.out; omega)).trans KB2.out)
  replace KK := aside (KK.out.trans k1)
  replace RR := aside R1
  clear k1 R1
  go_upto_region 11 with fail
  have c2_0 : w5.cell? ⟨i2, 0, none⟩ = some (.int .i64 0) := by rw [cell_of_row _ _ 0 _ _ _ KB2.out]; rfl
  have c2_1 : w5.cell? ⟨i2, 1, none⟩ = some (.string lo) := by rw [cell_of_row _ _ 1 _ _ _ KB2.out]; rfl
  have c2_2 : w5.cell? ⟨i2, 2, none⟩ = some (.string hi) := by rw [cell_of_row _ _ 2 _ _ _ KB2.out]; rfl
  have c2_3 : w5.cell? ⟨i2, 3, none⟩ = some (.bool op) := by rw [cell_of_row _ _ 3 _ _ _ KB2.out]; rfl
  have c2_4 : w5.cell? ⟨i2, 4, none⟩ = some (.int .i64 0) := by rw [cell_of_row _ _ 4 _ _ _ KB2.out]; rfl
  have c2_5 : w5.cell? ⟨i2, 5, none⟩ = some (.int .u64 0) := by rw [cell_of_row _ _ 5 _ _ _ KB2.out]; rfl
  have c2_6 : w5.cell? ⟨i2, 6, none⟩ = some (.int .u64 0) := by rw [cell_of_row _ _ 6 _ _ _ KB2.out]; rfl
  have c2_7 : w5.cell? ⟨i2, 7, none⟩ = some (.slice none 0 0) := by rw [cell_of_row _ _ 7 _ _ _ KB2.out]; rfl
  have c1_0 : w5.cell? ⟨i1, 0, none⟩ = some (.int .i64 0) := by rw [cell_of_row _ _ 0 _ _ _ KB1.out]; rfl
  have f1_0 := frozen_of_row _ _ 0 _ _ KB1.out
  have c1_1 : w5.cell? ⟨i1, 1, none⟩ = some (.string ⟨#[]⟩) := by rw [cell_of_row _ _ 1 _ _ _ KB1.out]; rfl
  have f1_1 := frozen_of_row _ _ 1 _ _ KB1.out
  have c1_2 : w5.cell? ⟨i1, 2, none⟩ = some (.string ⟨#[]⟩) := by rw [cell_of_row _ _ 2 _ _ _ KB1.out]; rfl
  have f1_2 := frozen_of_row _ _ 2 _ _ KB1.out
  have c1_3 : w5.cell? ⟨i1, 3, none⟩ = some (.bool false) := by rw [cell_of_row _ _ 3 _ _ _ KB1.out]; rfl
  have f1_3 := frozen_of_row _ _ 3 _ _ KB1.out
  have c1_4 : w5.cell? ⟨i1, 4, none⟩ = some (.int .i64 0) := by rw [cell_of_row _ _ 4 _ _ _ KB1.out]; rfl
  have f1_4 := frozen_of_row _ _ 4 _ _ KB1.out
  have c1_5 : w5.cell? ⟨i1, 5, none⟩ = some (.int .u64 0) := by rw [cell_of_row _ _ 5 _ _ _ KB1.out]; rfl
  have f1_5 := frozen_of_row _ _ 5 _ _ KB1.out
  have c1_6 : w5.cell? ⟨i1, 6, none⟩ = some (.int .u64 0) := by rw [cell_of_row _ _ 6 _ _ _ KB1.out]; rfl
  have f1_6 := frozen_of_row _ _ 6 _ _ KB1.out
  have c1_7 : w5.cell? ⟨i1, 7, none⟩ = some (.slice none 0 0) := by rw [cell_of_row _ _ 7 _ _ _ KB1.out]; rfl
  have f1_7 := frozen_of_row _ _ 7 _ _ KB1.out
  have SK := aside ((((((((((Keeps.refl (fun x => x = i1) w5).setCell (p := ⟨i1, 0, none⟩) (fun _ => rfl) (.int .i64 0)).setCell (p := ⟨i1, 1, none⟩) (fun _ => rfl) (.string lo)).setCell (p := ⟨i1, 2, none⟩) (fun _ => rfl) (.string hi)).setCell (p := ⟨i1, 3, none⟩) (fun _ => rfl) (.bool op)).setCell (p := ⟨i1, 4, none⟩) (fun _ => rfl) (.int .i64 0)).setCell (p := ⟨i1, 5, none⟩) (fun _ => rfl) (.int .u64 0)).setCell (p := ⟨i1, 6, none⟩) (fun _ => rfl) (.int .u64 0)).setCell (p := ⟨i1, 7, none⟩) (fun _ => rfl) (.slice none 0 0)))
  have KF := aside (((((((((KK.out.setCell (p := ⟨i1, 0, none⟩) (fun h => by have := HN.out; simp only at h; omega) (.int .i64 0)).setCell (p := ⟨i1, 1, none⟩) (fun h => by have := HN.out; simp only at h; omega) (.string lo)).setCell (p := ⟨i1, 2, none⟩) (fun h => by have := HN.out; simp only at h; omega) (.string hi)).setCell (p := ⟨i1, 3, none⟩) (fun h => by have := HN.out; simp only at h; omega) (.bool op)).setCell (p := ⟨i1, 4, none⟩) (fun h => by have := HN.out; simp only at h; omega) (.int .i64 0)).setCell (p := ⟨i1, 5, none⟩) (fun h => by have := HN.out; simp only at h; omega) (.int .u64 0)).setCell (p := ⟨i1, 6, none⟩) (fun h => by have := HN.out; simp only at h; omega) (.int .u64 0)).setCell (p := ⟨i1, 7, none⟩) (fun h => by have := HN.out; simp only at h; omega) (.slice none 0 0)))
  have kz := (heap_setCell_same _ i1 7 _ _ (.slice none 0 0) (heap_setCell_same _ i1 6 _ _ (.int .u64 0) (heap_setCell_same _ i1 5 _ _ (.int .u64 0) (heap_setCell_same _ i1 4 _ _ (.int .i64 0) (heap_setCell_same _ i1 3 _ _ (.bool op) (heap_setCell_same _ i1 2 _ _ (.string hi) (heap_setCell_same _ i1 1 _ _ (.string lo) (heap_setCell_same _ i1 0 _ _ (.int .i64 0) KB1.out))))))))
  simp only [List.setIfInBounds_toArray, List.set_cons_zero, List.set_cons_succ] at kz
  have KR := aside kz
  clear kz
  go_wp2
  exact bodyPost_ret (v := .agg #[.int .i64 0, .string lo, .string hi, .bool op, .int .i64 0, .int .u64 0, .int .u64 0, .slice none 0 0]) (by simp [results, Try.results58, go_sem, cell_of_row _ _ 0 _ _ _ KR.out, cell_of_row _ _ 1 _ _ _ KR.out, cell_of_row _ _ 2 _ _ _ KR.out, cell_of_row _ _ 3 _ _ _ KR.out, cell_of_row _ _ 4 _ _ _ KR.out, cell_of_row _ _ 5 _ _ _ KR.out, cell_of_row _ _ 6 _ _ _ KR.out, cell_of_row _ _ 7 _ _ _ KR.out]) rfl ⟨none, 0, 0, rfl, ⟨rfl, .inl ⟨rfl, rfl⟩⟩, RR.out.keep SK.out (fun h => by have := HN.out; omega), KF.out⟩
set_option maxRecDepth 100000 in
set_option maxHeartbeats 3200000 in
theorem rpart_1 {br : Nat} {s : ByteArray} {l : List UInt8} {w : World} {p p1 p2 p3 a b : Nat} {e e1 e2 e3 c : Int} {lo hi : ByteArray} {op : Bool} (h : OneR br s l p e w) (h1 : numSt l p e 3 = (1, p1, e1)) (h2 : keysSt l p1 e1 = ((lo, hi, op), p2, e2)) (h3 : tallySt l p2 e2 = ((c, a, b), p3, e3)) :
    Calls Try.prog 58 #[.agg #[.pointer (some ⟨br, 0, none⟩)]] w fun r w' => ∃ a' n' c', r = .returned (.agg #[.int .i64 1, .string lo, .string hi, .bool op, .int .i64 c, .int .u64 (a : Int), .int .u64 (b : Int), .slice a' n' c']) ∧ w'.ownsRow w.heap.size 50 5 (.slice a' n' c') n' (entCells []) ∧ OneR br s l p3 e3 w' ∧ Keeps (fun x => x = br) w w' := by
  have C1 := aside (fun w (h : OneR br s l p e w) => one_num_at h1 h)
  have C2 := aside (fun w (h : OneR br s l p1 e1 w) => rkeys_at h h2)
  have C3 := aside (fun w (h : OneR br s l p2 e2 w) => rtally_at h h3)
  clear h1 h2 h3
  have z0 := heap_alloc_new w (.cells #[.pointer (some ⟨br, 0, none⟩)] 72)
  have z1 := heap_alloc_new (w.alloc (.cells #[.pointer (some ⟨br, 0, none⟩)] 72)) (.cells #[.int .i64 0, .string ⟨#[]⟩, .string ⟨#[]⟩, .bool false, .int .i64 0, .int .u64 0, .int .u64 0, .slice none 0 0] 46)
  simp only [World.size_alloc] at z1
  replace z0 := blk_on z0 (bnew _ (.cells #[.int .i64 0, .string ⟨#[]⟩, .string ⟨#[]⟩, .bool false, .int .i64 0, .int .u64 0, .int .u64 0, .slice none 0 0] 46))
  have z2 := heap_alloc_new ((w.alloc (.cells #[.pointer (some ⟨br, 0, none⟩)] 72)).alloc (.cells #[.int .i64 0, .string ⟨#[]⟩, .string ⟨#[]⟩, .bool false, .int .i64 0, .int .u64 0, .int .u64 0, .slice none 0 0] 46)) (.cells #[.int .i64 0, .string ⟨#[]⟩, .string ⟨#[]⟩, .bool false, .int .i64 0, .int .u64 0, .int .u64 0, .slice none 0 0] 46)
  simp only [World.size_alloc] at z2
  replace z0 := blk_on z0 (bnew _ (.cells #[.int .i64 0, .string ⟨#[]⟩, .string ⟨#[]⟩, .bool false, .int .i64 0, .int .u64 0, .int .u64 0, .slice none 0 0] 46))
  replace z1 := blk_on z1 (bnew _ (.cells #[.int .i64 0, .string ⟨#[]⟩, .string ⟨#[]⟩, .bool false, .int .i64 0, .int .u64 0, .int .u64 0, .slice none 0 0] 46))
  have hk0 : Keeps (fun x => x = br) w (((w.alloc (.cells #[.pointer (some ⟨br, 0, none⟩)] 72)).alloc (.cells #[.int .i64 0, .string ⟨#[]⟩, .string ⟨#[]⟩, .bool false, .int .i64 0, .int .u64 0, .int .u64 0, .slice none 0 0] 46)).alloc (.cells #[.int .i64 0, .string ⟨#[]⟩, .string ⟨#[]⟩, .bool false, .int .i64 0, .int .u64 0, .int .u64 0, .slice none 0 0] 46)) := (((Keeps.refl (fun x => x = br) w).alloc (.cells #[.pointer (some ⟨br, 0, none⟩)] 72)).alloc (.cells #[.int .i64 0, .string ⟨#[]⟩, .string ⟨#[]⟩, .bool false, .int .i64 0, .int .u64 0, .int .u64 0, .slice none 0 0] 46)).alloc (.cells #[.int .i64 0, .string ⟨#[]⟩, .string ⟨#[]⟩, .bool false, .int .i64 0, .int .u64 0, .int .u64 0, .slice none 0 0] 46)
  have hr0 := h.keep ((((Keeps.refl (fun _ => False) w).alloc (.cells #[.pointer (some ⟨br, 0, none⟩)] 72)).alloc (.cells #[.int .i64 0, .string ⟨#[]⟩, .string ⟨#[]⟩, .bool false, .int .i64 0, .int .u64 0, .int .u64 0, .slice none 0 0] 46)).alloc (.cells #[.int .i64 0, .string ⟨#[]⟩, .string ⟨#[]⟩, .bool false, .int .i64 0, .int .u64 0, .int .u64 0, .slice none 0 0] 46)) (fun h => h)
  have HBR := aside h.lt
  clear h
  have KB0 := aside z0
  have KB1 := aside z1
  have KB2 := aside z2
  have KK := aside hk0
  have RR := aside hr0
  clear hk0 hr0 z0 z1 z2
  go_enter Try.func58, Try.ntmps58
  go_wp2_with fail
  obtain ⟨i0, hi0⟩ : ∃ i0, w.heap.size = i0 := ⟨_, rfl⟩
  obtain ⟨i1, hi1⟩ : ∃ i1, i0 + 1 = i1 := ⟨_, rfl⟩
  obtain ⟨i2, hi2⟩ : ∃ i2, i1 + 1 = i2 := ⟨_, rfl⟩
  have HN := aside (show w.heap.size ≤ i0 ∧ br ≠ i0 ∧ w.heap.size ≤ i1 ∧ br ≠ i1 ∧ w.heap.size ≤ i2 ∧ br ≠ i2 ∧ i0 ≠ i1 ∧ i0 ≠ i2 ∧ i1 ≠ i0 ∧ i1 ≠ i2 ∧ i2 ≠ i0 ∧ i2 ≠ i1 from by have := HBR.out; omega)
  rw [hi0, hi1, hi2] at ⊢
  rw [hi0] at KB0
  rw [hi0, hi1] at KB1
  rw [hi0, hi1, hi2] at KB2
  clear hi0 hi1 hi2
  generalize ((w.alloc (.cells #[.pointer (some ⟨br, 0, none⟩)] 72)).alloc (.cells #[.int .i64 0, .string ⟨#[]⟩, .string ⟨#[]⟩, .bool false, .int .i64 0, .int .u64 0, .int .u64 0, .slice none 0 0] 46)).alloc (.cells #[.int .i64 0, .string ⟨#[]⟩, .string ⟨#[]⟩, .bool false, .int .i64 0, .int .u64 0, .int .u64 0, .slice none 0 0] 46) = X0 at KK RR KB0 KB1 KB2 ⊢
  refine (C1.out _ RR.out).mono ?_
  rintro r w1 ⟨rfl, R1, k1⟩
  replace KB0 := aside ((k1.block i0 (Array.getElem?_eq_some_iff.1 KB0.out).1 (fun h => by have := HN.out; omega)).trans KB0.out)
  replace KB1 := aside ((k1.block i1 (Array.getElem?_eq_some_iff.1 KB1.out).1 (fun h => by have := HN.out; omega)).trans KB1.out)
  replace KB2 := aside ((k1.block i2 (Array.getElem?_eq_some_iff.1 KB2.out).1 (fun h => by have := HN.out; omega)).trans KB2.out)
  replace KK := aside (KK.out.trans k1)
  replace RR := aside R1
  clear k1 R1
  have c2_0 : w1.cell? ⟨i2, 0, none⟩ = some (.int .i64 0) := by rw [cell_of_row _ _ 0 _ _ _ KB2.out]; rfl
  have f2_0 := frozen_of_row _ _ 0 _ _ KB2.out
  have c2_1 : w1.cell? ⟨i2, 1, none⟩ = some (.string ⟨#[]⟩) := by rw [cell_of_row _ _ 1 _ _ _ KB2.out]; rfl
  have f2_1 := frozen_of_row _ _ 1 _ _ KB2.out
  have c2_2 : w1.cell? ⟨i2, 2, none⟩ = some (.string ⟨#[]⟩) := by rw [cell_of_row _ _ 2 _ _ _ KB2.out]; rfl
  have f2_2 := frozen_of_row _ _ 2 _ _ KB2.out
  have c2_3 : w1.cell? ⟨i2, 3, none⟩ = some (.bool false) := by rw [cell_of_row _ _ 3 _ _ _ KB2.out]; rfl
  have f2_3 := frozen_of_row _ _ 3 _ _ KB2.out
  have c2_4 : w1.cell? ⟨i2, 4, none⟩ = some (.int .i64 0) := by rw [cell_of_row _ _ 4 _ _ _ KB2.out]; rfl
  have f2_4 := frozen_of_row _ _ 4 _ _ KB2.out
  have c2_5 : w1.cell? ⟨i2, 5, none⟩ = some (.int .u64 0) := by rw [cell_of_row _ _ 5 _ _ _ KB2.out]; rfl
  have f2_5 := frozen_of_row _ _ 5 _ _ KB2.out
  have c2_6 : w1.cell? ⟨i2, 6, none⟩ = some (.int .u64 0) := by rw [cell_of_row _ _ 6 _ _ _ KB2.out]; rfl
  have f2_6 := frozen_of_row _ _ 6 _ _ KB2.out
  have c2_7 : w1.cell? ⟨i2, 7, none⟩ = some (.slice none 0 0) := by rw [cell_of_row _ _ 7 _ _ _ KB2.out]; rfl
  have f2_7 := frozen_of_row _ _ 7 _ _ KB2.out
  go_upto_region 3 with fail
  clear c2_0 f2_0 c2_1 f2_1 c2_2 f2_2 c2_3 f2_3 c2_4 f2_4 c2_5 f2_5 c2_6 f2_6 c2_7 f2_7
  have sk := ((Keeps.refl (fun x => x = i2) w1).setCell (p := ⟨i2, 0, none⟩) (fun _ => rfl) (.int .i64 1))
  replace KB0 := aside ((sk.block i0 (Array.getElem?_eq_some_iff.1 KB0.out).1 (fun h => by have := HN.out; omega)).trans KB0.out)
  replace KB1 := aside ((sk.block i1 (Array.getElem?_eq_some_iff.1 KB1.out).1 (fun h => by have := HN.out; omega)).trans KB1.out)
  have kz := (heap_setCell_same _ i2 0 _ _ (.int .i64 1) KB2.out)
  simp only [List.setIfInBounds_toArray, List.set_cons_zero] at kz
  replace KB2 := aside kz
  replace RR := aside (RR.out.keep sk (fun h => by have := HN.out; omega))
  replace KK := aside (KK.out.setCell (p := ⟨i2, 0, none⟩) (fun h => by have := HN.out; simp only at h; omega) (.int .i64 1))
  clear sk kz
  generalize w1.setCell ⟨i2, 0, none⟩ (.int .i64 1) = X2 at KK RR KB0 KB1 KB2  ⊢
  have c0_0 : X2.cell? ⟨i0, 0, none⟩ = some (.pointer (some ⟨br, 0, none⟩)) := by rw [cell_of_row _ _ 0 _ _ _ KB0.out]; rfl
  go_wp2_with fail
  refine (C2.out _ RR.out).mono ?_
  rintro r w3 ⟨rfl, R1, k1⟩
  clear c0_0
  replace KB0 := aside ((k1.block i0 (Array.getElem?_eq_some_iff.1 KB0.out).1 (fun h => by have := HN.out; omega)).trans KB0.out)
  replace KB1 := aside ((k1.block i1 (Array.getElem?_eq_some_iff.1 KB1.out).1 (fun h => by have := HN.out; omega)).trans KB1.out)
  replace KB2 := aside ((k1.block i2 (Array.getElem?_eq_some_iff.1 KB2.out).1 (fun h => by have := HN.out; omega)).trans KB2.out)
  replace KK := aside (KK.out.trans k1)
  replace RR := aside R1
  clear k1 R1
  have c2_0 : w3.cell? ⟨i2, 0, none⟩ = some (.int .i64 1) := by rw [cell_of_row _ _ 0 _ _ _ KB2.out]; rfl
  have f2_0 := frozen_of_row _ _ 0 _ _ KB2.out
  have c2_1 : w3.cell? ⟨i2, 1, none⟩ = some (.string ⟨#[]⟩) := by rw [cell_of_row _ _ 1 _ _ _ KB2.out]; rfl
  have f2_1 := frozen_of_row _ _ 1 _ _ KB2.out
  have c2_2 : w3.cell? ⟨i2, 2, none⟩ = some (.string ⟨#[]⟩) := by rw [cell_of_row _ _ 2 _ _ _ KB2.out]; rfl
  have f2_2 := frozen_of_row _ _ 2 _ _ KB2.out
  have c2_3 : w3.cell? ⟨i2, 3, none⟩ = some (.bool false) := by rw [cell_of_row _ _ 3 _ _ _ KB2.out]; rfl
  have f2_3 := frozen_of_row _ _ 3 _ _ KB2.out
  have c2_4 : w3.cell? ⟨i2, 4, none⟩ = some (.int .i64 0) := by rw [cell_of_row _ _ 4 _ _ _ KB2.out]; rfl
  have f2_4 := frozen_of_row _ _ 4 _ _ KB2.out
  have c2_5 : w3.cell? ⟨i2, 5, none⟩ = some (.int .u64 0) := by rw [cell_of_row _ _ 5 _ _ _ KB2.out]; rfl
  have f2_5 := frozen_of_row _ _ 5 _ _ KB2.out
  have c2_6 : w3.cell? ⟨i2, 6, none⟩ = some (.int .u64 0) := by rw [cell_of_row _ _ 6 _ _ _ KB2.out]; rfl
  have f2_6 := frozen_of_row _ _ 6 _ _ KB2.out
  have c2_7 : w3.cell? ⟨i2, 7, none⟩ = some (.slice none 0 0) := by rw [cell_of_row _ _ 7 _ _ _ KB2.out]; rfl
  have f2_7 := frozen_of_row _ _ 7 _ _ KB2.out
  go_upto_region 4 with fail
  clear c2_0 f2_0 c2_1 f2_1 c2_2 f2_2 c2_3 f2_3 c2_4 f2_4 c2_5 f2_5 c2_6 f2_6 c2_7 f2_7
  have sk := ((((Keeps.refl (fun x => x = i2) w3).setCell (p := ⟨i2, 1, none⟩) (fun _ => rfl) (.string lo)).setCell (p := ⟨i2, 2, none⟩) (fun _ => rfl) (.string hi)).setCell (p := ⟨i2, 3, none⟩) (fun _ => rfl) (.bool op))
  replace KB0 := aside ((sk.block i0 (Array.getElem?_eq_some_iff.1 KB0.out).1 (fun h => by have := HN.out; omega)).trans KB0.out)
  replace KB1 := aside ((sk.block i1 (Array.getElem?_eq_some_iff.1 KB1.out).1 (fun h => by have := HN.out; omega)).trans KB1.out)
  have kz := (heap_setCell_same _ i2 3 _ _ (.bool op) (heap_setCell_same _ i2 2 _ _ (.string hi) (heap_setCell_same _ i2 1 _ _ (.string lo) KB2.out)))
  simp only [List.setIfInBounds_toArray, List.set_cons_zero, List.set_cons_succ] at kz
  replace KB2 := aside kz
  replace RR := aside (RR.out.keep sk (fun h => by have := HN.out; omega))
  replace KK := aside (((KK.out.setCell (p := ⟨i2, 1, none⟩) (fun h => by have := HN.out; simp only at h; omega) (.string lo)).setCell (p := ⟨i2, 2, none⟩) (fun h => by have := HN.out; simp only at h; omega) (.string hi)).setCell (p := ⟨i2, 3, none⟩) (fun h => by have := HN.out; simp only at h; omega) (.bool op))
  clear sk kz
  generalize ((w3.setCell ⟨i2, 1, none⟩ (.string lo)).setCell ⟨i2, 2, none⟩ (.string hi)).setCell ⟨i2, 3, none⟩ (.bool op) = X4 at KK RR KB0 KB1 KB2  ⊢
  have c2_0 : X4.cell? ⟨i2, 0, none⟩ = some (.int .i64 1) := by rw [cell_of_row _ _ 0 _ _ _ KB2.out]; rfl
  have c2_1 : X4.cell? ⟨i2, 1, none⟩ = some (.string lo) := by rw [cell_of_row _ _ 1 _ _ _ KB2.out]; rfl
  have c2_2 : X4.cell? ⟨i2, 2, none⟩ = some (.string hi) := by rw [cell_of_row _ _ 2 _ _ _ KB2.out]; rfl
  have c2_3 : X4.cell? ⟨i2, 3, none⟩ = some (.bool op) := by rw [cell_of_row _ _ 3 _ _ _ KB2.out]; rfl
  have c2_4 : X4.cell? ⟨i2, 4, none⟩ = some (.int .i64 0) := by rw [cell_of_row _ _ 4 _ _ _ KB2.out]; rfl
  have c2_5 : X4.cell? ⟨i2, 5, none⟩ = some (.int .u64 0) := by rw [cell_of_row _ _ 5 _ _ _ KB2.out]; rfl
  have c2_6 : X4.cell? ⟨i2, 6, none⟩ = some (.int .u64 0) := by rw [cell_of_row _ _ 6 _ _ _ KB2.out]; rfl
  have c2_7 : X4.cell? ⟨i2, 7, none⟩ = some (.slice none 0 0) := by rw [cell_of_row _ _ 7 _ _ _ KB2.out]; rfl
  have c0_0 : X4.cell? ⟨i0, 0, none⟩ = some (.pointer (some ⟨br, 0, none⟩)) := by rw [cell_of_row _ _ 0 _ _ _ KB0.out]; rfl
  go_wp2_with fail
  refine (C3.out _ RR.out).mono ?_
  rintro r w5 ⟨rfl, R1, k1⟩
  clear c2_0 c2_1 c2_2 c2_3 c2_4 c2_5 c2_6 c2_7 c0_0
  replace KB0 := aside ((k1.block i0 (Array.getElem?_eq_some_iff.1 KB0.out).1 (fun h => by have := HN.out; omega)).trans KB0.out)
  replace KB1 := aside ((k1.block i1 (Array.getElem?_eq_some_iff.1 KB1.out).1 (fun h => by have := HN.out; omega)).trans KB1.out)
  replace KB2 := aside ((k1.block i2 (Array.getElem?_eq_some_iff.1 KB2.out).1 (fun h => by have := HN.out; omega)).trans KB2.out)
  replace KK := aside (KK.out.trans k1)
  replace RR := aside R1
  clear k1 R1
  have c2_0 : w5.cell? ⟨i2, 0, none⟩ = some (.int .i64 1) := by rw [cell_of_row _ _ 0 _ _ _ KB2.out]; rfl
  have f2_0 := frozen_of_row _ _ 0 _ _ KB2.out
  have c2_1 : w5.cell? ⟨i2, 1, none⟩ = some (.string lo) := by rw [cell_of_row _ _ 1 _ _ _ KB2.out]; rfl
  have f2_1 := frozen_of_row _ _ 1 _ _ KB2.out
  have c2_2 : w5.cell? ⟨i2, 2, none⟩ = some (.string hi) := by rw [cell_of_row _ _ 2 _ _ _ KB2.out]; rfl
  have f2_2 := frozen_of_row _ _ 2 _ _ KB2.out
  have c2_3 : w5.cell? ⟨i2, 3, none⟩ = some (.bool op) := by rw [cell_of_row _ _ 3 _ _ _ KB2.out]; rfl
  have f2_3 := frozen_of_row _ _ 3 _ _ KB2.out
  have c2_4 : w5.cell? ⟨i2, 4, none⟩ = some (.int .i64 0) := by rw [cell_of_row _ _ 4 _ _ _ KB2.out]; rfl
  have f2_4 := frozen_of_row _ _ 4 _ _ KB2.out
  have c2_5 : w5.cell? ⟨i2, 5, none⟩ = some (.int .u64 0) := by rw [cell_of_row _ _ 5 _ _ _ KB2.out]; rfl
  have f2_5 := frozen_of_row _ _ 5 _ _ KB2.out
  have c2_6 : w5.cell? ⟨i2, 6, none⟩ = some (.int .u64 0) := by rw [cell_of_row _ _ 6 _ _ _ KB2.out]; rfl
  have f2_6 := frozen_of_row _ _ 6 _ _ KB2.out
  have c2_7 : w5.cell? ⟨i2, 7, none⟩ = some (.slice none 0 0) := by rw [cell_of_row _ _ 7 _ _ _ KB2.out]; rfl
  have f2_7 := frozen_of_row _ _ 7 _ _ KB2.out
  go_upto_region 11 with fail
  clear c2_0 f2_0 c2_1 f2_1 c2_2 f2_2 c2_3 f2_3 c2_4 f2_4 c2_5 f2_5 c2_6 f2_6 c2_7 f2_7
  have sk := ((((Keeps.refl (fun x => x = i2) w5).setCell (p := ⟨i2, 4, none⟩) (fun _ => rfl) (.int .i64 c)).setCell (p := ⟨i2, 5, none⟩) (fun _ => rfl) (.int .u64 (a : Int))).setCell (p := ⟨i2, 6, none⟩) (fun _ => rfl) (.int .u64 (b : Int)))
  replace KB0 := aside ((sk.block i0 (Array.getElem?_eq_some_iff.1 KB0.out).1 (fun h => by have := HN.out; omega)).trans KB0.out)
  replace KB1 := aside ((sk.block i1 (Array.getElem?_eq_some_iff.1 KB1.out).1 (fun h => by have := HN.out; omega)).trans KB1.out)
  have kz := (heap_setCell_same _ i2 6 _ _ (.int .u64 (b : Int)) (heap_setCell_same _ i2 5 _ _ (.int .u64 (a : Int)) (heap_setCell_same _ i2 4 _ _ (.int .i64 c) KB2.out)))
  simp only [List.setIfInBounds_toArray, List.set_cons_zero, List.set_cons_succ] at kz
  replace KB2 := aside kz
  replace RR := aside (RR.out.keep sk (fun h => by have := HN.out; omega))
  replace KK := aside (((KK.out.setCell (p := ⟨i2, 4, none⟩) (fun h => by have := HN.out; simp only at h; omega) (.int .i64 c)).setCell (p := ⟨i2, 5, none⟩) (fun h => by have := HN.out; simp only at h; omega) (.int .u64 (a : Int))).setCell (p := ⟨i2, 6, none⟩) (fun h => by have := HN.out; simp only at h; omega) (.int .u64 (b : Int)))
  clear sk kz
  generalize ((w5.setCell ⟨i2, 4, none⟩ (.int .i64 c)).setCell ⟨i2, 5, none⟩ (.int .u64 (a : Int))).setCell ⟨i2, 6, none⟩ (.int .u64 (b : Int)) = X6 at KK RR KB0 KB1 KB2  ⊢
  have c2_0 : X6.cell? ⟨i2, 0, none⟩ = some (.int .i64 1) := by rw [cell_of_row _ _ 0 _ _ _ KB2.out]; rfl
  have c2_1 : X6.cell? ⟨i2, 1, none⟩ = some (.string lo) := by rw [cell_of_row _ _ 1 _ _ _ KB2.out]; rfl
  have c2_2 : X6.cell? ⟨i2, 2, none⟩ = some (.string hi) := by rw [cell_of_row _ _ 2 _ _ _ KB2.out]; rfl
  have c2_3 : X6.cell? ⟨i2, 3, none⟩ = some (.bool op) := by rw [cell_of_row _ _ 3 _ _ _ KB2.out]; rfl
  have c2_4 : X6.cell? ⟨i2, 4, none⟩ = some (.int .i64 c) := by rw [cell_of_row _ _ 4 _ _ _ KB2.out]; rfl
  have c2_5 : X6.cell? ⟨i2, 5, none⟩ = some (.int .u64 (a : Int)) := by rw [cell_of_row _ _ 5 _ _ _ KB2.out]; rfl
  have c2_6 : X6.cell? ⟨i2, 6, none⟩ = some (.int .u64 (b : Int)) := by rw [cell_of_row _ _ 6 _ _ _ KB2.out]; rfl
  have c2_7 : X6.cell? ⟨i2, 7, none⟩ = some (.slice none 0 0) := by rw [cell_of_row _ _ 7 _ _ _ KB2.out]; rfl
  have c1_0 : X6.cell? ⟨i1, 0, none⟩ = some (.int .i64 0) := by rw [cell_of_row _ _ 0 _ _ _ KB1.out]; rfl
  have f1_0 := frozen_of_row _ _ 0 _ _ KB1.out
  have c1_1 : X6.cell? ⟨i1, 1, none⟩ = some (.string ⟨#[]⟩) := by rw [cell_of_row _ _ 1 _ _ _ KB1.out]; rfl
  have f1_1 := frozen_of_row _ _ 1 _ _ KB1.out
  have c1_2 : X6.cell? ⟨i1, 2, none⟩ = some (.string ⟨#[]⟩) := by rw [cell_of_row _ _ 2 _ _ _ KB1.out]; rfl
  have f1_2 := frozen_of_row _ _ 2 _ _ KB1.out
  have c1_3 : X6.cell? ⟨i1, 3, none⟩ = some (.bool false) := by rw [cell_of_row _ _ 3 _ _ _ KB1.out]; rfl
  have f1_3 := frozen_of_row _ _ 3 _ _ KB1.out
  have c1_4 : X6.cell? ⟨i1, 4, none⟩ = some (.int .i64 0) := by rw [cell_of_row _ _ 4 _ _ _ KB1.out]; rfl
  have f1_4 := frozen_of_row _ _ 4 _ _ KB1.out
  have c1_5 : X6.cell? ⟨i1, 5, none⟩ = some (.int .u64 0) := by rw [cell_of_row _ _ 5 _ _ _ KB1.out]; rfl
  have f1_5 := frozen_of_row _ _ 5 _ _ KB1.out
  have c1_6 : X6.cell? ⟨i1, 6, none⟩ = some (.int .u64 0) := by rw [cell_of_row _ _ 6 _ _ _ KB1.out]; rfl
  have f1_6 := frozen_of_row _ _ 6 _ _ KB1.out
  have c1_7 : X6.cell? ⟨i1, 7, none⟩ = some (.slice none 0 0) := by rw [cell_of_row _ _ 7 _ _ _ KB1.out]; rfl
  have f1_7 := frozen_of_row _ _ 7 _ _ KB1.out
  have SK := aside ((((((((((Keeps.refl (fun x => x = i1) X6).setCell (p := ⟨i1, 0, none⟩) (fun _ => rfl) (.int .i64 1)).setCell (p := ⟨i1, 1, none⟩) (fun _ => rfl) (.string lo)).setCell (p := ⟨i1, 2, none⟩) (fun _ => rfl) (.string hi)).setCell (p := ⟨i1, 3, none⟩) (fun _ => rfl) (.bool op)).setCell (p := ⟨i1, 4, none⟩) (fun _ => rfl) (.int .i64 c)).setCell (p := ⟨i1, 5, none⟩) (fun _ => rfl) (.int .u64 (a : Int))).setCell (p := ⟨i1, 6, none⟩) (fun _ => rfl) (.int .u64 (b : Int))).setCell (p := ⟨i1, 7, none⟩) (fun _ => rfl) (.slice none 0 0)))
  have KF := aside (((((((((KK.out.setCell (p := ⟨i1, 0, none⟩) (fun h => by have := HN.out; simp only at h; omega) (.int .i64 1)).setCell (p := ⟨i1, 1, none⟩) (fun h => by have := HN.out; simp only at h; omega) (.string lo)).setCell (p := ⟨i1, 2, none⟩) (fun h => by have := HN.out; simp only at h; omega) (.string hi)).setCell (p := ⟨i1, 3, none⟩) (fun h => by have := HN.out; simp only at h; omega) (.bool op)).setCell (p := ⟨i1, 4, none⟩) (fun h => by have := HN.out; simp only at h; omega) (.int .i64 c)).setCell (p := ⟨i1, 5, none⟩) (fun h => by have := HN.out; simp only at h; omega) (.int .u64 (a : Int))).setCell (p := ⟨i1, 6, none⟩) (fun h => by have := HN.out; simp only at h; omega) (.int .u64 (b : Int))).setCell (p := ⟨i1, 7, none⟩) (fun h => by have := HN.out; simp only at h; omega) (.slice none 0 0)))
  have kz := (heap_setCell_same _ i1 7 _ _ (.slice none 0 0) (heap_setCell_same _ i1 6 _ _ (.int .u64 (b : Int)) (heap_setCell_same _ i1 5 _ _ (.int .u64 (a : Int)) (heap_setCell_same _ i1 4 _ _ (.int .i64 c) (heap_setCell_same _ i1 3 _ _ (.bool op) (heap_setCell_same _ i1 2 _ _ (.string hi) (heap_setCell_same _ i1 1 _ _ (.string lo) (heap_setCell_same _ i1 0 _ _ (.int .i64 1) KB1.out))))))))
  simp only [List.setIfInBounds_toArray, List.set_cons_zero, List.set_cons_succ] at kz
  have KR := aside kz
  clear kz
  go_wp2
  exact bodyPost_ret (v := .agg #[.int .i64 1, .string lo, .string hi, .bool op, .int .i64 c, .int .u64 (a : Int), .int .u64 (b : Int), .slice none 0 0]) (by simp [results, Try.results58, go_sem, cell_of_row _ _ 0 _ _ _ KR.out, cell_of_row _ _ 1 _ _ _ KR.out, cell_of_row _ _ 2 _ _ _ KR.out, cell_of_row _ _ 3 _ _ _ KR.out, cell_of_row _ _ 4 _ _ _ KR.out, cell_of_row _ _ 5 _ _ _ KR.out, cell_of_row _ _ 6 _ _ _ KR.out, cell_of_row _ _ 7 _ _ _ KR.out]) rfl ⟨none, 0, 0, rfl, ⟨rfl, .inl ⟨rfl, rfl⟩⟩, RR.out.keep SK.out (fun h => by have := HN.out; omega), KF.out⟩
set_option maxRecDepth 100000 in
set_option maxHeartbeats 3200000 in
theorem rpart_2 {br : Nat} {s : ByteArray} {l : List UInt8} {w : World} {p p1 p2 p3 : Nat} {e e1 e2 e3 : Int} {lo hi : ByteArray} {op : Bool} {es : List En} (h : OneR br s l p e w) (h1 : numSt l p e 3 = (2, p1, e1)) (h2 : keysSt l p1 e1 = ((lo, hi, op), p2, e2)) (h3 : entriesSt l p2 e2 = (es, p3, e3)) :
    Calls Try.prog 58 #[.agg #[.pointer (some ⟨br, 0, none⟩)]] w fun r w' => ∃ a' n' c', r = .returned (.agg #[.int .i64 2, .string lo, .string hi, .bool op, .int .i64 0, .int .u64 0, .int .u64 0, .slice a' n' c']) ∧ w'.ownsRow w.heap.size 50 5 (.slice a' n' c') n' (entCells es) ∧ OneR br s l p3 e3 w' ∧ Keeps (fun x => x = br) w w' := by
  have C1 := aside (fun w (h : OneR br s l p e w) => one_num_at h1 h)
  have C2 := aside (fun w (h : OneR br s l p1 e1 w) => rkeys_at h h2)
  have C3 := aside (fun w (h : OneR br s l p2 e2 w) => rents_at h h3)
  clear h1 h2 h3
  have z0 := heap_alloc_new w (.cells #[.pointer (some ⟨br, 0, none⟩)] 72)
  have z1 := heap_alloc_new (w.alloc (.cells #[.pointer (some ⟨br, 0, none⟩)] 72)) (.cells #[.int .i64 0, .string ⟨#[]⟩, .string ⟨#[]⟩, .bool false, .int .i64 0, .int .u64 0, .int .u64 0, .slice none 0 0] 46)
  simp only [World.size_alloc] at z1
  replace z0 := blk_on z0 (bnew _ (.cells #[.int .i64 0, .string ⟨#[]⟩, .string ⟨#[]⟩, .bool false, .int .i64 0, .int .u64 0, .int .u64 0, .slice none 0 0] 46))
  have z2 := heap_alloc_new ((w.alloc (.cells #[.pointer (some ⟨br, 0, none⟩)] 72)).alloc (.cells #[.int .i64 0, .string ⟨#[]⟩, .string ⟨#[]⟩, .bool false, .int .i64 0, .int .u64 0, .int .u64 0, .slice none 0 0] 46)) (.cells #[.int .i64 0, .string ⟨#[]⟩, .string ⟨#[]⟩, .bool false, .int .i64 0, .int .u64 0, .int .u64 0, .slice none 0 0] 46)
  simp only [World.size_alloc] at z2
  replace z0 := blk_on z0 (bnew _ (.cells #[.int .i64 0, .string ⟨#[]⟩, .string ⟨#[]⟩, .bool false, .int .i64 0, .int .u64 0, .int .u64 0, .slice none 0 0] 46))
  replace z1 := blk_on z1 (bnew _ (.cells #[.int .i64 0, .string ⟨#[]⟩, .string ⟨#[]⟩, .bool false, .int .i64 0, .int .u64 0, .int .u64 0, .slice none 0 0] 46))
  have hk0 : Keeps (fun x => x = br) w (((w.alloc (.cells #[.pointer (some ⟨br, 0, none⟩)] 72)).alloc (.cells #[.int .i64 0, .string ⟨#[]⟩, .string ⟨#[]⟩, .bool false, .int .i64 0, .int .u64 0, .int .u64 0, .slice none 0 0] 46)).alloc (.cells #[.int .i64 0, .string ⟨#[]⟩, .string ⟨#[]⟩, .bool false, .int .i64 0, .int .u64 0, .int .u64 0, .slice none 0 0] 46)) := (((Keeps.refl (fun x => x = br) w).alloc (.cells #[.pointer (some ⟨br, 0, none⟩)] 72)).alloc (.cells #[.int .i64 0, .string ⟨#[]⟩, .string ⟨#[]⟩, .bool false, .int .i64 0, .int .u64 0, .int .u64 0, .slice none 0 0] 46)).alloc (.cells #[.int .i64 0, .string ⟨#[]⟩, .string ⟨#[]⟩, .bool false, .int .i64 0, .int .u64 0, .int .u64 0, .slice none 0 0] 46)
  have hr0 := h.keep ((((Keeps.refl (fun _ => False) w).alloc (.cells #[.pointer (some ⟨br, 0, none⟩)] 72)).alloc (.cells #[.int .i64 0, .string ⟨#[]⟩, .string ⟨#[]⟩, .bool false, .int .i64 0, .int .u64 0, .int .u64 0, .slice none 0 0] 46)).alloc (.cells #[.int .i64 0, .string ⟨#[]⟩, .string ⟨#[]⟩, .bool false, .int .i64 0, .int .u64 0, .int .u64 0, .slice none 0 0] 46)) (fun h => h)
  have HBR := aside h.lt
  clear h
  have KB0 := aside z0
  have KB1 := aside z1
  have KB2 := aside z2
  have KK := aside hk0
  have RR := aside hr0
  clear hk0 hr0 z0 z1 z2
  go_enter Try.func58, Try.ntmps58
  go_wp2_with fail
  obtain ⟨i0, hi0⟩ : ∃ i0, w.heap.size = i0 := ⟨_, rfl⟩
  obtain ⟨i1, hi1⟩ : ∃ i1, i0 + 1 = i1 := ⟨_, rfl⟩
  obtain ⟨i2, hi2⟩ : ∃ i2, i1 + 1 = i2 := ⟨_, rfl⟩
  have HN := aside (show w.heap.size ≤ i0 ∧ br ≠ i0 ∧ w.heap.size ≤ i1 ∧ br ≠ i1 ∧ w.heap.size ≤ i2 ∧ br ≠ i2 ∧ i0 ≠ i1 ∧ i0 ≠ i2 ∧ i1 ≠ i0 ∧ i1 ≠ i2 ∧ i2 ≠ i0 ∧ i2 ≠ i1 from by have := HBR.out; omega)
  rw [hi0, hi1, hi2] at ⊢
  rw [hi0] at KB0
  rw [hi0, hi1] at KB1
  rw [hi0, hi1, hi2] at KB2
  clear hi0 hi1 hi2
  generalize ((w.alloc (.cells #[.pointer (some ⟨br, 0, none⟩)] 72)).alloc (.cells #[.int .i64 0, .string ⟨#[]⟩, .string ⟨#[]⟩, .bool false, .int .i64 0, .int .u64 0, .int .u64 0, .slice none 0 0] 46)).alloc (.cells #[.int .i64 0, .string ⟨#[]⟩, .string ⟨#[]⟩, .bool false, .int .i64 0, .int .u64 0, .int .u64 0, .slice none 0 0] 46) = X0 at KK RR KB0 KB1 KB2 ⊢
  refine (C1.out _ RR.out).mono ?_
  rintro r w1 ⟨rfl, R1, k1⟩
  replace KB0 := aside ((k1.block i0 (Array.getElem?_eq_some_iff.1 KB0.out).1 (fun h => by have := HN.out; omega)).trans KB0.out)
  replace KB1 := aside ((k1.block i1 (Array.getElem?_eq_some_iff.1 KB1.out).1 (fun h => by have := HN.out; omega)).trans KB1.out)
  replace KB2 := aside ((k1.block i2 (Array.getElem?_eq_some_iff.1 KB2.out).1 (fun h => by have := HN.out; omega)).trans KB2.out)
  replace KK := aside (KK.out.trans k1)
  replace RR := aside R1
  clear k1 R1
  have c2_0 : w1.cell? ⟨i2, 0, none⟩ = some (.int .i64 0) := by rw [cell_of_row _ _ 0 _ _ _ KB2.out]; rfl
  have f2_0 := frozen_of_row _ _ 0 _ _ KB2.out
  have c2_1 : w1.cell? ⟨i2, 1, none⟩ = some (.string ⟨#[]⟩) := by rw [cell_of_row _ _ 1 _ _ _ KB2.out]; rfl
  have f2_1 := frozen_of_row _ _ 1 _ _ KB2.out
  have c2_2 : w1.cell? ⟨i2, 2, none⟩ = some (.string ⟨#[]⟩) := by rw [cell_of_row _ _ 2 _ _ _ KB2.out]; rfl
  have f2_2 := frozen_of_row _ _ 2 _ _ KB2.out
  have c2_3 : w1.cell? ⟨i2, 3, none⟩ = some (.bool false) := by rw [cell_of_row _ _ 3 _ _ _ KB2.out]; rfl
  have f2_3 := frozen_of_row _ _ 3 _ _ KB2.out
  have c2_4 : w1.cell? ⟨i2, 4, none⟩ = some (.int .i64 0) := by rw [cell_of_row _ _ 4 _ _ _ KB2.out]; rfl
  have f2_4 := frozen_of_row _ _ 4 _ _ KB2.out
  have c2_5 : w1.cell? ⟨i2, 5, none⟩ = some (.int .u64 0) := by rw [cell_of_row _ _ 5 _ _ _ KB2.out]; rfl
  have f2_5 := frozen_of_row _ _ 5 _ _ KB2.out
  have c2_6 : w1.cell? ⟨i2, 6, none⟩ = some (.int .u64 0) := by rw [cell_of_row _ _ 6 _ _ _ KB2.out]; rfl
  have f2_6 := frozen_of_row _ _ 6 _ _ KB2.out
  have c2_7 : w1.cell? ⟨i2, 7, none⟩ = some (.slice none 0 0) := by rw [cell_of_row _ _ 7 _ _ _ KB2.out]; rfl
  have f2_7 := frozen_of_row _ _ 7 _ _ KB2.out
  go_upto_region 3 with fail
  clear c2_0 f2_0 c2_1 f2_1 c2_2 f2_2 c2_3 f2_3 c2_4 f2_4 c2_5 f2_5 c2_6 f2_6 c2_7 f2_7
  have sk := ((Keeps.refl (fun x => x = i2) w1).setCell (p := ⟨i2, 0, none⟩) (fun _ => rfl) (.int .i64 2))
  replace KB0 := aside ((sk.block i0 (Array.getElem?_eq_some_iff.1 KB0.out).1 (fun h => by have := HN.out; omega)).trans KB0.out)
  replace KB1 := aside ((sk.block i1 (Array.getElem?_eq_some_iff.1 KB1.out).1 (fun h => by have := HN.out; omega)).trans KB1.out)
  have kz := (heap_setCell_same _ i2 0 _ _ (.int .i64 2) KB2.out)
  simp only [List.setIfInBounds_toArray, List.set_cons_zero] at kz
  replace KB2 := aside kz
  replace RR := aside (RR.out.keep sk (fun h => by have := HN.out; omega))
  replace KK := aside (KK.out.setCell (p := ⟨i2, 0, none⟩) (fun h => by have := HN.out; simp only at h; omega) (.int .i64 2))
  clear sk kz
  generalize w1.setCell ⟨i2, 0, none⟩ (.int .i64 2) = X2 at KK RR KB0 KB1 KB2  ⊢
  have c0_0 : X2.cell? ⟨i0, 0, none⟩ = some (.pointer (some ⟨br, 0, none⟩)) := by rw [cell_of_row _ _ 0 _ _ _ KB0.out]; rfl
  go_wp2_with fail
  refine (C2.out _ RR.out).mono ?_
  rintro r w3 ⟨rfl, R1, k1⟩
  clear c0_0
  replace KB0 := aside ((k1.block i0 (Array.getElem?_eq_some_iff.1 KB0.out).1 (fun h => by have := HN.out; omega)).trans KB0.out)
  replace KB1 := aside ((k1.block i1 (Array.getElem?_eq_some_iff.1 KB1.out).1 (fun h => by have := HN.out; omega)).trans KB1.out)
  replace KB2 := aside ((k1.block i2 (Array.getElem?_eq_some_iff.1 KB2.out).1 (fun h => by have := HN.out; omega)).trans KB2.out)
  replace KK := aside (KK.out.trans k1)
  replace RR := aside R1
  clear k1 R1
  have c2_0 : w3.cell? ⟨i2, 0, none⟩ = some (.int .i64 2) := by rw [cell_of_row _ _ 0 _ _ _ KB2.out]; rfl
  have f2_0 := frozen_of_row _ _ 0 _ _ KB2.out
  have c2_1 : w3.cell? ⟨i2, 1, none⟩ = some (.string ⟨#[]⟩) := by rw [cell_of_row _ _ 1 _ _ _ KB2.out]; rfl
  have f2_1 := frozen_of_row _ _ 1 _ _ KB2.out
  have c2_2 : w3.cell? ⟨i2, 2, none⟩ = some (.string ⟨#[]⟩) := by rw [cell_of_row _ _ 2 _ _ _ KB2.out]; rfl
  have f2_2 := frozen_of_row _ _ 2 _ _ KB2.out
  have c2_3 : w3.cell? ⟨i2, 3, none⟩ = some (.bool false) := by rw [cell_of_row _ _ 3 _ _ _ KB2.out]; rfl
  have f2_3 := frozen_of_row _ _ 3 _ _ KB2.out
  have c2_4 : w3.cell? ⟨i2, 4, none⟩ = some (.int .i64 0) := by rw [cell_of_row _ _ 4 _ _ _ KB2.out]; rfl
  have f2_4 := frozen_of_row _ _ 4 _ _ KB2.out
  have c2_5 : w3.cell? ⟨i2, 5, none⟩ = some (.int .u64 0) := by rw [cell_of_row _ _ 5 _ _ _ KB2.out]; rfl
  have f2_5 := frozen_of_row _ _ 5 _ _ KB2.out
  have c2_6 : w3.cell? ⟨i2, 6, none⟩ = some (.int .u64 0) := by rw [cell_of_row _ _ 6 _ _ _ KB2.out]; rfl
  have f2_6 := frozen_of_row _ _ 6 _ _ KB2.out
  have c2_7 : w3.cell? ⟨i2, 7, none⟩ = some (.slice none 0 0) := by rw [cell_of_row _ _ 7 _ _ _ KB2.out]; rfl
  have f2_7 := frozen_of_row _ _ 7 _ _ KB2.out
  go_upto_region 4 with fail
  clear c2_0 f2_0 c2_1 f2_1 c2_2 f2_2 c2_3 f2_3 c2_4 f2_4 c2_5 f2_5 c2_6 f2_6 c2_7 f2_7
  have sk := ((((Keeps.refl (fun x => x = i2) w3).setCell (p := ⟨i2, 1, none⟩) (fun _ => rfl) (.string lo)).setCell (p := ⟨i2, 2, none⟩) (fun _ => rfl) (.string hi)).setCell (p := ⟨i2, 3, none⟩) (fun _ => rfl) (.bool op))
  replace KB0 := aside ((sk.block i0 (Array.getElem?_eq_some_iff.1 KB0.out).1 (fun h => by have := HN.out; omega)).trans KB0.out)
  replace KB1 := aside ((sk.block i1 (Array.getElem?_eq_some_iff.1 KB1.out).1 (fun h => by have := HN.out; omega)).trans KB1.out)
  have kz := (heap_setCell_same _ i2 3 _ _ (.bool op) (heap_setCell_same _ i2 2 _ _ (.string hi) (heap_setCell_same _ i2 1 _ _ (.string lo) KB2.out)))
  simp only [List.setIfInBounds_toArray, List.set_cons_zero, List.set_cons_succ] at kz
  replace KB2 := aside kz
  replace RR := aside (RR.out.keep sk (fun h => by have := HN.out; omega))
  replace KK := aside (((KK.out.setCell (p := ⟨i2, 1, none⟩) (fun h => by have := HN.out; simp only at h; omega) (.string lo)).setCell (p := ⟨i2, 2, none⟩) (fun h => by have := HN.out; simp only at h; omega) (.string hi)).setCell (p := ⟨i2, 3, none⟩) (fun h => by have := HN.out; simp only at h; omega) (.bool op))
  clear sk kz
  generalize ((w3.setCell ⟨i2, 1, none⟩ (.string lo)).setCell ⟨i2, 2, none⟩ (.string hi)).setCell ⟨i2, 3, none⟩ (.bool op) = X4 at KK RR KB0 KB1 KB2  ⊢
  have c2_0 : X4.cell? ⟨i2, 0, none⟩ = some (.int .i64 2) := by rw [cell_of_row _ _ 0 _ _ _ KB2.out]; rfl
  have c2_1 : X4.cell? ⟨i2, 1, none⟩ = some (.string lo) := by rw [cell_of_row _ _ 1 _ _ _ KB2.out]; rfl
  have c2_2 : X4.cell? ⟨i2, 2, none⟩ = some (.string hi) := by rw [cell_of_row _ _ 2 _ _ _ KB2.out]; rfl
  have c2_3 : X4.cell? ⟨i2, 3, none⟩ = some (.bool op) := by rw [cell_of_row _ _ 3 _ _ _ KB2.out]; rfl
  have c2_4 : X4.cell? ⟨i2, 4, none⟩ = some (.int .i64 0) := by rw [cell_of_row _ _ 4 _ _ _ KB2.out]; rfl
  have c2_5 : X4.cell? ⟨i2, 5, none⟩ = some (.int .u64 0) := by rw [cell_of_row _ _ 5 _ _ _ KB2.out]; rfl
  have c2_6 : X4.cell? ⟨i2, 6, none⟩ = some (.int .u64 0) := by rw [cell_of_row _ _ 6 _ _ _ KB2.out]; rfl
  have c2_7 : X4.cell? ⟨i2, 7, none⟩ = some (.slice none 0 0) := by rw [cell_of_row _ _ 7 _ _ _ KB2.out]; rfl
  have c0_0 : X4.cell? ⟨i0, 0, none⟩ = some (.pointer (some ⟨br, 0, none⟩)) := by rw [cell_of_row _ _ 0 _ _ _ KB0.out]; rfl
  go_wp2_with fail
  have HS2 := aside (show w.heap.size ≤ X4.heap.size from KK.out.size)
  refine (C3.out _ RR.out).mono ?_
  rintro r w5 ⟨ea, el, ec, rfl, OW1, R1, k1⟩
  clear c2_0 c2_1 c2_2 c2_3 c2_4 c2_5 c2_6 c2_7 c0_0
  replace KB0 := aside ((k1.block i0 (Array.getElem?_eq_some_iff.1 KB0.out).1 (fun h => by have := HN.out; omega)).trans KB0.out)
  replace KB1 := aside ((k1.block i1 (Array.getElem?_eq_some_iff.1 KB1.out).1 (fun h => by have := HN.out; omega)).trans KB1.out)
  replace KB2 := aside ((k1.block i2 (Array.getElem?_eq_some_iff.1 KB2.out).1 (fun h => by have := HN.out; omega)).trans KB2.out)
  replace KK := aside (KK.out.trans k1)
  replace RR := aside R1
  clear k1 R1
  have OW := aside (own_low OW1 HS2.out)
  clear OW1
  have c2_0 : w5.cell? ⟨i2, 0, none⟩ = some (.int .i64 2) := by rw [cell_of_row _ _ 0 _ _ _ KB2.out]; rfl
  have f2_0 := frozen_of_row _ _ 0 _ _ KB2.out
  have c2_1 : w5.cell? ⟨i2, 1, none⟩ = some (.string lo) := by rw [cell_of_row _ _ 1 _ _ _ KB2.out]; rfl
  have f2_1 := frozen_of_row _ _ 1 _ _ KB2.out
  have c2_2 : w5.cell? ⟨i2, 2, none⟩ = some (.string hi) := by rw [cell_of_row _ _ 2 _ _ _ KB2.out]; rfl
  have f2_2 := frozen_of_row _ _ 2 _ _ KB2.out
  have c2_3 : w5.cell? ⟨i2, 3, none⟩ = some (.bool op) := by rw [cell_of_row _ _ 3 _ _ _ KB2.out]; rfl
  have f2_3 := frozen_of_row _ _ 3 _ _ KB2.out
  have c2_4 : w5.cell? ⟨i2, 4, none⟩ = some (.int .i64 0) := by rw [cell_of_row _ _ 4 _ _ _ KB2.out]; rfl
  have f2_4 := frozen_of_row _ _ 4 _ _ KB2.out
  have c2_5 : w5.cell? ⟨i2, 5, none⟩ = some (.int .u64 0) := by rw [cell_of_row _ _ 5 _ _ _ KB2.out]; rfl
  have f2_5 := frozen_of_row _ _ 5 _ _ KB2.out
  have c2_6 : w5.cell? ⟨i2, 6, none⟩ = some (.int .u64 0) := by rw [cell_of_row _ _ 6 _ _ _ KB2.out]; rfl
  have f2_6 := frozen_of_row _ _ 6 _ _ KB2.out
  have c2_7 : w5.cell? ⟨i2, 7, none⟩ = some (.slice none 0 0) := by rw [cell_of_row _ _ 7 _ _ _ KB2.out]; rfl
  have f2_7 := frozen_of_row _ _ 7 _ _ KB2.out
  go_upto_region 11 with fail
  clear c2_0 f2_0 c2_1 f2_1 c2_2 f2_2 c2_3 f2_3 c2_4 f2_4 c2_5 f2_5 c2_6 f2_6 c2_7 f2_7
  have sk := ((Keeps.refl (fun x => x = i2) w5).setCell (p := ⟨i2, 7, none⟩) (fun _ => rfl) (.slice ea el ec))
  replace KB0 := aside ((sk.block i0 (Array.getElem?_eq_some_iff.1 KB0.out).1 (fun h => by have := HN.out; omega)).trans KB0.out)
  replace KB1 := aside ((sk.block i1 (Array.getElem?_eq_some_iff.1 KB1.out).1 (fun h => by have := HN.out; omega)).trans KB1.out)
  replace OW := aside (ownsRow_keep OW.out sk (fun j hj x => own_nots OW.out KB2.out (by decide) (x ▸ hj)))
  have kz := (heap_setCell_same _ i2 7 _ _ (.slice ea el ec) KB2.out)
  simp only [List.setIfInBounds_toArray, List.set_cons_zero, List.set_cons_succ] at kz
  replace KB2 := aside kz
  replace RR := aside (RR.out.keep sk (fun h => by have := HN.out; omega))
  replace KK := aside (KK.out.setCell (p := ⟨i2, 7, none⟩) (fun h => by have := HN.out; simp only at h; omega) (.slice ea el ec))
  clear sk kz
  generalize w5.setCell ⟨i2, 7, none⟩ (.slice ea el ec) = X6 at KK RR KB0 KB1 KB2 OW ⊢
  have c2_0 : X6.cell? ⟨i2, 0, none⟩ = some (.int .i64 2) := by rw [cell_of_row _ _ 0 _ _ _ KB2.out]; rfl
  have c2_1 : X6.cell? ⟨i2, 1, none⟩ = some (.string lo) := by rw [cell_of_row _ _ 1 _ _ _ KB2.out]; rfl
  have c2_2 : X6.cell? ⟨i2, 2, none⟩ = some (.string hi) := by rw [cell_of_row _ _ 2 _ _ _ KB2.out]; rfl
  have c2_3 : X6.cell? ⟨i2, 3, none⟩ = some (.bool op) := by rw [cell_of_row _ _ 3 _ _ _ KB2.out]; rfl
  have c2_4 : X6.cell? ⟨i2, 4, none⟩ = some (.int .i64 0) := by rw [cell_of_row _ _ 4 _ _ _ KB2.out]; rfl
  have c2_5 : X6.cell? ⟨i2, 5, none⟩ = some (.int .u64 0) := by rw [cell_of_row _ _ 5 _ _ _ KB2.out]; rfl
  have c2_6 : X6.cell? ⟨i2, 6, none⟩ = some (.int .u64 0) := by rw [cell_of_row _ _ 6 _ _ _ KB2.out]; rfl
  have c2_7 : X6.cell? ⟨i2, 7, none⟩ = some (.slice ea el ec) := by rw [cell_of_row _ _ 7 _ _ _ KB2.out]; rfl
  have c1_0 : X6.cell? ⟨i1, 0, none⟩ = some (.int .i64 0) := by rw [cell_of_row _ _ 0 _ _ _ KB1.out]; rfl
  have f1_0 := frozen_of_row _ _ 0 _ _ KB1.out
  have c1_1 : X6.cell? ⟨i1, 1, none⟩ = some (.string ⟨#[]⟩) := by rw [cell_of_row _ _ 1 _ _ _ KB1.out]; rfl
  have f1_1 := frozen_of_row _ _ 1 _ _ KB1.out
  have c1_2 : X6.cell? ⟨i1, 2, none⟩ = some (.string ⟨#[]⟩) := by rw [cell_of_row _ _ 2 _ _ _ KB1.out]; rfl
  have f1_2 := frozen_of_row _ _ 2 _ _ KB1.out
  have c1_3 : X6.cell? ⟨i1, 3, none⟩ = some (.bool false) := by rw [cell_of_row _ _ 3 _ _ _ KB1.out]; rfl
  have f1_3 := frozen_of_row _ _ 3 _ _ KB1.out
  have c1_4 : X6.cell? ⟨i1, 4, none⟩ = some (.int .i64 0) := by rw [cell_of_row _ _ 4 _ _ _ KB1.out]; rfl
  have f1_4 := frozen_of_row _ _ 4 _ _ KB1.out
  have c1_5 : X6.cell? ⟨i1, 5, none⟩ = some (.int .u64 0) := by rw [cell_of_row _ _ 5 _ _ _ KB1.out]; rfl
  have f1_5 := frozen_of_row _ _ 5 _ _ KB1.out
  have c1_6 : X6.cell? ⟨i1, 6, none⟩ = some (.int .u64 0) := by rw [cell_of_row _ _ 6 _ _ _ KB1.out]; rfl
  have f1_6 := frozen_of_row _ _ 6 _ _ KB1.out
  have c1_7 : X6.cell? ⟨i1, 7, none⟩ = some (.slice none 0 0) := by rw [cell_of_row _ _ 7 _ _ _ KB1.out]; rfl
  have f1_7 := frozen_of_row _ _ 7 _ _ KB1.out
  have SK := aside ((((((((((Keeps.refl (fun x => x = i1) X6).setCell (p := ⟨i1, 0, none⟩) (fun _ => rfl) (.int .i64 2)).setCell (p := ⟨i1, 1, none⟩) (fun _ => rfl) (.string lo)).setCell (p := ⟨i1, 2, none⟩) (fun _ => rfl) (.string hi)).setCell (p := ⟨i1, 3, none⟩) (fun _ => rfl) (.bool op)).setCell (p := ⟨i1, 4, none⟩) (fun _ => rfl) (.int .i64 0)).setCell (p := ⟨i1, 5, none⟩) (fun _ => rfl) (.int .u64 0)).setCell (p := ⟨i1, 6, none⟩) (fun _ => rfl) (.int .u64 0)).setCell (p := ⟨i1, 7, none⟩) (fun _ => rfl) (.slice ea el ec)))
  have KF := aside (((((((((KK.out.setCell (p := ⟨i1, 0, none⟩) (fun h => by have := HN.out; simp only at h; omega) (.int .i64 2)).setCell (p := ⟨i1, 1, none⟩) (fun h => by have := HN.out; simp only at h; omega) (.string lo)).setCell (p := ⟨i1, 2, none⟩) (fun h => by have := HN.out; simp only at h; omega) (.string hi)).setCell (p := ⟨i1, 3, none⟩) (fun h => by have := HN.out; simp only at h; omega) (.bool op)).setCell (p := ⟨i1, 4, none⟩) (fun h => by have := HN.out; simp only at h; omega) (.int .i64 0)).setCell (p := ⟨i1, 5, none⟩) (fun h => by have := HN.out; simp only at h; omega) (.int .u64 0)).setCell (p := ⟨i1, 6, none⟩) (fun h => by have := HN.out; simp only at h; omega) (.int .u64 0)).setCell (p := ⟨i1, 7, none⟩) (fun h => by have := HN.out; simp only at h; omega) (.slice ea el ec)))
  have kz := (heap_setCell_same _ i1 7 _ _ (.slice ea el ec) (heap_setCell_same _ i1 6 _ _ (.int .u64 0) (heap_setCell_same _ i1 5 _ _ (.int .u64 0) (heap_setCell_same _ i1 4 _ _ (.int .i64 0) (heap_setCell_same _ i1 3 _ _ (.bool op) (heap_setCell_same _ i1 2 _ _ (.string hi) (heap_setCell_same _ i1 1 _ _ (.string lo) (heap_setCell_same _ i1 0 _ _ (.int .i64 2) KB1.out))))))))
  simp only [List.setIfInBounds_toArray, List.set_cons_zero, List.set_cons_succ] at kz
  have KR := aside kz
  clear kz
  go_wp2
  exact bodyPost_ret (v := .agg #[.int .i64 2, .string lo, .string hi, .bool op, .int .i64 0, .int .u64 0, .int .u64 0, .slice ea el ec]) (by simp [results, Try.results58, go_sem, cell_of_row _ _ 0 _ _ _ KR.out, cell_of_row _ _ 1 _ _ _ KR.out, cell_of_row _ _ 2 _ _ _ KR.out, cell_of_row _ _ 3 _ _ _ KR.out, cell_of_row _ _ 4 _ _ _ KR.out, cell_of_row _ _ 5 _ _ _ KR.out, cell_of_row _ _ 6 _ _ _ KR.out, cell_of_row _ _ 7 _ _ _ KR.out]) rfl ⟨ea, el, ec, rfl, ownsRow_keep OW.out SK.out (fun j hj x => own_nots OW.out KB1.out (by decide) (x ▸ hj)), RR.out.keep SK.out (fun h => by have := HN.out; omega), KF.out⟩
set_option maxRecDepth 100000 in
set_option maxHeartbeats 3200000 in
theorem rpart_3 {br : Nat} {s : ByteArray} {l : List UInt8} {w : World} {p p1 p2 p3 : Nat} {e e1 e2 e3 : Int} {lo hi : ByteArray} {op : Bool} {es : List En} (h : OneR br s l p e w) (h1 : numSt l p e 3 = (3, p1, e1)) (h2 : keysSt l p1 e1 = ((lo, hi, op), p2, e2)) (h3 : entriesSt l p2 e2 = (es, p3, e3)) :
    Calls Try.prog 58 #[.agg #[.pointer (some ⟨br, 0, none⟩)]] w fun r w' => ∃ a' n' c', r = .returned (.agg #[.int .i64 3, .string lo, .string hi, .bool op, .int .i64 0, .int .u64 0, .int .u64 0, .slice a' n' c']) ∧ w'.ownsRow w.heap.size 50 5 (.slice a' n' c') n' (entCells es) ∧ OneR br s l p3 e3 w' ∧ Keeps (fun x => x = br) w w' := by
  have C1 := aside (fun w (h : OneR br s l p e w) => one_num_at h1 h)
  have C2 := aside (fun w (h : OneR br s l p1 e1 w) => rkeys_at h h2)
  have C3 := aside (fun w (h : OneR br s l p2 e2 w) => rents_at h h3)
  clear h1 h2 h3
  have z0 := heap_alloc_new w (.cells #[.pointer (some ⟨br, 0, none⟩)] 72)
  have z1 := heap_alloc_new (w.alloc (.cells #[.pointer (some ⟨br, 0, none⟩)] 72)) (.cells #[.int .i64 0, .string ⟨#[]⟩, .string ⟨#[]⟩, .bool false, .int .i64 0, .int .u64 0, .int .u64 0, .slice none 0 0] 46)
  simp only [World.size_alloc] at z1
  replace z0 := blk_on z0 (bnew _ (.cells #[.int .i64 0, .string ⟨#[]⟩, .string ⟨#[]⟩, .bool false, .int .i64 0, .int .u64 0, .int .u64 0, .slice none 0 0] 46))
  have z2 := heap_alloc_new ((w.alloc (.cells #[.pointer (some ⟨br, 0, none⟩)] 72)).alloc (.cells #[.int .i64 0, .string ⟨#[]⟩, .string ⟨#[]⟩, .bool false, .int .i64 0, .int .u64 0, .int .u64 0, .slice none 0 0] 46)) (.cells #[.int .i64 0, .string ⟨#[]⟩, .string ⟨#[]⟩, .bool false, .int .i64 0, .int .u64 0, .int .u64 0, .slice none 0 0] 46)
  simp only [World.size_alloc] at z2
  replace z0 := blk_on z0 (bnew _ (.cells #[.int .i64 0, .string ⟨#[]⟩, .string ⟨#[]⟩, .bool false, .int .i64 0, .int .u64 0, .int .u64 0, .slice none 0 0] 46))
  replace z1 := blk_on z1 (bnew _ (.cells #[.int .i64 0, .string ⟨#[]⟩, .string ⟨#[]⟩, .bool false, .int .i64 0, .int .u64 0, .int .u64 0, .slice none 0 0] 46))
  have hk0 : Keeps (fun x => x = br) w (((w.alloc (.cells #[.pointer (some ⟨br, 0, none⟩)] 72)).alloc (.cells #[.int .i64 0, .string ⟨#[]⟩, .string ⟨#[]⟩, .bool false, .int .i64 0, .int .u64 0, .int .u64 0, .slice none 0 0] 46)).alloc (.cells #[.int .i64 0, .string ⟨#[]⟩, .string ⟨#[]⟩, .bool false, .int .i64 0, .int .u64 0, .int .u64 0, .slice none 0 0] 46)) := (((Keeps.refl (fun x => x = br) w).alloc (.cells #[.pointer (some ⟨br, 0, none⟩)] 72)).alloc (.cells #[.int .i64 0, .string ⟨#[]⟩, .string ⟨#[]⟩, .bool false, .int .i64 0, .int .u64 0, .int .u64 0, .slice none 0 0] 46)).alloc (.cells #[.int .i64 0, .string ⟨#[]⟩, .string ⟨#[]⟩, .bool false, .int .i64 0, .int .u64 0, .int .u64 0, .slice none 0 0] 46)
  have hr0 := h.keep ((((Keeps.refl (fun _ => False) w).alloc (.cells #[.pointer (some ⟨br, 0, none⟩)] 72)).alloc (.cells #[.int .i64 0, .string ⟨#[]⟩, .string ⟨#[]⟩, .bool false, .int .i64 0, .int .u64 0, .int .u64 0, .slice none 0 0] 46)).alloc (.cells #[.int .i64 0, .string ⟨#[]⟩, .string ⟨#[]⟩, .bool false, .int .i64 0, .int .u64 0, .int .u64 0, .slice none 0 0] 46)) (fun h => h)
  have HBR := aside h.lt
  clear h
  have KB0 := aside z0
  have KB1 := aside z1
  have KB2 := aside z2
  have KK := aside hk0
  have RR := aside hr0
  clear hk0 hr0 z0 z1 z2
  go_enter Try.func58, Try.ntmps58
  go_wp2_with fail
  obtain ⟨i0, hi0⟩ : ∃ i0, w.heap.size = i0 := ⟨_, rfl⟩
  obtain ⟨i1, hi1⟩ : ∃ i1, i0 + 1 = i1 := ⟨_, rfl⟩
  obtain ⟨i2, hi2⟩ : ∃ i2, i1 + 1 = i2 := ⟨_, rfl⟩
  have HN := aside (show w.heap.size ≤ i0 ∧ br ≠ i0 ∧ w.heap.size ≤ i1 ∧ br ≠ i1 ∧ w.heap.size ≤ i2 ∧ br ≠ i2 ∧ i0 ≠ i1 ∧ i0 ≠ i2 ∧ i1 ≠ i0 ∧ i1 ≠ i2 ∧ i2 ≠ i0 ∧ i2 ≠ i1 from by have := HBR.out; omega)
  rw [hi0, hi1, hi2] at ⊢
  rw [hi0] at KB0
  rw [hi0, hi1] at KB1
  rw [hi0, hi1, hi2] at KB2
  clear hi0 hi1 hi2
  generalize ((w.alloc (.cells #[.pointer (some ⟨br, 0, none⟩)] 72)).alloc (.cells #[.int .i64 0, .string ⟨#[]⟩, .string ⟨#[]⟩, .bool false, .int .i64 0, .int .u64 0, .int .u64 0, .slice none 0 0] 46)).alloc (.cells #[.int .i64 0, .string ⟨#[]⟩, .string ⟨#[]⟩, .bool false, .int .i64 0, .int .u64 0, .int .u64 0, .slice none 0 0] 46) = X0 at KK RR KB0 KB1 KB2 ⊢
  refine (C1.out _ RR.out).mono ?_
  rintro r w1 ⟨rfl, R1, k1⟩
  replace KB0 := aside ((k1.block i0 (Array.getElem?_eq_some_iff.1 KB0.out).1 (fun h => by have := HN.out; omega)).trans KB0.out)
  replace KB1 := aside ((k1.block i1 (Array.getElem?_eq_some_iff.1 KB1.out).1 (fun h => by have := HN.out; omega)).trans KB1.out)
  replace KB2 := aside ((k1.block i2 (Array.getElem?_eq_some_iff.1 KB2.out).1 (fun h => by have := HN.out; omega)).trans KB2.out)
  replace KK := aside (KK.out.trans k1)
  replace RR := aside R1
  clear k1 R1
  have c2_0 : w1.cell? ⟨i2, 0, none⟩ = some (.int .i64 0) := by rw [cell_of_row _ _ 0 _ _ _ KB2.out]; rfl
  have f2_0 := frozen_of_row _ _ 0 _ _ KB2.out
  have c2_1 : w1.cell? ⟨i2, 1, none⟩ = some (.string ⟨#[]⟩) := by rw [cell_of_row _ _ 1 _ _ _ KB2.out]; rfl
  have f2_1 := frozen_of_row _ _ 1 _ _ KB2.out
  have c2_2 : w1.cell? ⟨i2, 2, none⟩ = some (.string ⟨#[]⟩) := by rw [cell_of_row _ _ 2 _ _ _ KB2.out]; rfl
  have f2_2 := frozen_of_row _ _ 2 _ _ KB2.out
  have c2_3 : w1.cell? ⟨i2, 3, none⟩ = some (.bool false) := by rw [cell_of_row _ _ 3 _ _ _ KB2.out]; rfl
  have f2_3 := frozen_of_row _ _ 3 _ _ KB2.out
  have c2_4 : w1.cell? ⟨i2, 4, none⟩ = some (.int .i64 0) := by rw [cell_of_row _ _ 4 _ _ _ KB2.out]; rfl
  have f2_4 := frozen_of_row _ _ 4 _ _ KB2.out
  have c2_5 : w1.cell? ⟨i2, 5, none⟩ = some (.int .u64 0) := by rw [cell_of_row _ _ 5 _ _ _ KB2.out]; rfl
  have f2_5 := frozen_of_row _ _ 5 _ _ KB2.out
  have c2_6 : w1.cell? ⟨i2, 6, none⟩ = some (.int .u64 0) := by rw [cell_of_row _ _ 6 _ _ _ KB2.out]; rfl
  have f2_6 := frozen_of_row _ _ 6 _ _ KB2.out
  have c2_7 : w1.cell? ⟨i2, 7, none⟩ = some (.slice none 0 0) := by rw [cell_of_row _ _ 7 _ _ _ KB2.out]; rfl
  have f2_7 := frozen_of_row _ _ 7 _ _ KB2.out
  go_upto_region 3 with fail
  clear c2_0 f2_0 c2_1 f2_1 c2_2 f2_2 c2_3 f2_3 c2_4 f2_4 c2_5 f2_5 c2_6 f2_6 c2_7 f2_7
  have sk := ((Keeps.refl (fun x => x = i2) w1).setCell (p := ⟨i2, 0, none⟩) (fun _ => rfl) (.int .i64 3))
  replace KB0 := aside ((sk.block i0 (Array.getElem?_eq_some_iff.1 KB0.out).1 (fun h => by have := HN.out; omega)).trans KB0.out)
  replace KB1 := aside ((sk.block i1 (Array.getElem?_eq_some_iff.1 KB1.out).1 (fun h => by have := HN.out; omega)).trans KB1.out)
  have kz := (heap_setCell_same _ i2 0 _ _ (.int .i64 3) KB2.out)
  simp only [List.setIfInBounds_toArray, List.set_cons_zero] at kz
  replace KB2 := aside kz
  replace RR := aside (RR.out.keep sk (fun h => by have := HN.out; omega))
  replace KK := aside (KK.out.setCell (p := ⟨i2, 0, none⟩) (fun h => by have := HN.out; simp only at h; omega) (.int .i64 3))
  clear sk kz
  generalize w1.setCell ⟨i2, 0, none⟩ (.int .i64 3) = X2 at KK RR KB0 KB1 KB2  ⊢
  have c0_0 : X2.cell? ⟨i0, 0, none⟩ = some (.pointer (some ⟨br, 0, none⟩)) := by rw [cell_of_row _ _ 0 _ _ _ KB0.out]; rfl
  go_wp2_with fail
  refine (C2.out _ RR.out).mono ?_
  rintro r w3 ⟨rfl, R1, k1⟩
  clear c0_0
  replace KB0 := aside ((k1.block i0 (Array.getElem?_eq_some_iff.1 KB0.out).1 (fun h => by have := HN.out; omega)).trans KB0.out)
  replace KB1 := aside ((k1.block i1 (Array.getElem?_eq_some_iff.1 KB1.out).1 (fun h => by have := HN.out; omega)).trans KB1.out)
  replace KB2 := aside ((k1.block i2 (Array.getElem?_eq_some_iff.1 KB2.out).1 (fun h => by have := HN.out; omega)).trans KB2.out)
  replace KK := aside (KK.out.trans k1)
  replace RR := aside R1
  clear k1 R1
  have c2_0 : w3.cell? ⟨i2, 0, none⟩ = some (.int .i64 3) := by rw [cell_of_row _ _ 0 _ _ _ KB2.out]; rfl
  have f2_0 := frozen_of_row _ _ 0 _ _ KB2.out
  have c2_1 : w3.cell? ⟨i2, 1, none⟩ = some (.string ⟨#[]⟩) := by rw [cell_of_row _ _ 1 _ _ _ KB2.out]; rfl
  have f2_1 := frozen_of_row _ _ 1 _ _ KB2.out
  have c2_2 : w3.cell? ⟨i2, 2, none⟩ = some (.string ⟨#[]⟩) := by rw [cell_of_row _ _ 2 _ _ _ KB2.out]; rfl
  have f2_2 := frozen_of_row _ _ 2 _ _ KB2.out
  have c2_3 : w3.cell? ⟨i2, 3, none⟩ = some (.bool false) := by rw [cell_of_row _ _ 3 _ _ _ KB2.out]; rfl
  have f2_3 := frozen_of_row _ _ 3 _ _ KB2.out
  have c2_4 : w3.cell? ⟨i2, 4, none⟩ = some (.int .i64 0) := by rw [cell_of_row _ _ 4 _ _ _ KB2.out]; rfl
  have f2_4 := frozen_of_row _ _ 4 _ _ KB2.out
  have c2_5 : w3.cell? ⟨i2, 5, none⟩ = some (.int .u64 0) := by rw [cell_of_row _ _ 5 _ _ _ KB2.out]; rfl
  have f2_5 := frozen_of_row _ _ 5 _ _ KB2.out
  have c2_6 : w3.cell? ⟨i2, 6, none⟩ = some (.int .u64 0) := by rw [cell_of_row _ _ 6 _ _ _ KB2.out]; rfl
  have f2_6 := frozen_of_row _ _ 6 _ _ KB2.out
  have c2_7 : w3.cell? ⟨i2, 7, none⟩ = some (.slice none 0 0) := by rw [cell_of_row _ _ 7 _ _ _ KB2.out]; rfl
  have f2_7 := frozen_of_row _ _ 7 _ _ KB2.out
  go_upto_region 4 with fail
  clear c2_0 f2_0 c2_1 f2_1 c2_2 f2_2 c2_3 f2_3 c2_4 f2_4 c2_5 f2_5 c2_6 f2_6 c2_7 f2_7
  have sk := ((((Keeps.refl (fun x => x = i2) w3).setCell (p := ⟨i2, 1, none⟩) (fun _ => rfl) (.string lo)).setCell (p := ⟨i2, 2, none⟩) (fun _ => rfl) (.string hi)).setCell (p := ⟨i2, 3, none⟩) (fun _ => rfl) (.bool op))
  replace KB0 := aside ((sk.block i0 (Array.getElem?_eq_some_iff.1 KB0.out).1 (fun h => by have := HN.out; omega)).trans KB0.out)
  replace KB1 := aside ((sk.block i1 (Array.getElem?_eq_some_iff.1 KB1.out).1 (fun h => by have := HN.out; omega)).trans KB1.out)
  have kz := (heap_setCell_same _ i2 3 _ _ (.bool op) (heap_setCell_same _ i2 2 _ _ (.string hi) (heap_setCell_same _ i2 1 _ _ (.string lo) KB2.out)))
  simp only [List.setIfInBounds_toArray, List.set_cons_zero, List.set_cons_succ] at kz
  replace KB2 := aside kz
  replace RR := aside (RR.out.keep sk (fun h => by have := HN.out; omega))
  replace KK := aside (((KK.out.setCell (p := ⟨i2, 1, none⟩) (fun h => by have := HN.out; simp only at h; omega) (.string lo)).setCell (p := ⟨i2, 2, none⟩) (fun h => by have := HN.out; simp only at h; omega) (.string hi)).setCell (p := ⟨i2, 3, none⟩) (fun h => by have := HN.out; simp only at h; omega) (.bool op))
  clear sk kz
  generalize ((w3.setCell ⟨i2, 1, none⟩ (.string lo)).setCell ⟨i2, 2, none⟩ (.string hi)).setCell ⟨i2, 3, none⟩ (.bool op) = X4 at KK RR KB0 KB1 KB2  ⊢
  have c2_0 : X4.cell? ⟨i2, 0, none⟩ = some (.int .i64 3) := by rw [cell_of_row _ _ 0 _ _ _ KB2.out]; rfl
  have c2_1 : X4.cell? ⟨i2, 1, none⟩ = some (.string lo) := by rw [cell_of_row _ _ 1 _ _ _ KB2.out]; rfl
  have c2_2 : X4.cell? ⟨i2, 2, none⟩ = some (.string hi) := by rw [cell_of_row _ _ 2 _ _ _ KB2.out]; rfl
  have c2_3 : X4.cell? ⟨i2, 3, none⟩ = some (.bool op) := by rw [cell_of_row _ _ 3 _ _ _ KB2.out]; rfl
  have c2_4 : X4.cell? ⟨i2, 4, none⟩ = some (.int .i64 0) := by rw [cell_of_row _ _ 4 _ _ _ KB2.out]; rfl
  have c2_5 : X4.cell? ⟨i2, 5, none⟩ = some (.int .u64 0) := by rw [cell_of_row _ _ 5 _ _ _ KB2.out]; rfl
  have c2_6 : X4.cell? ⟨i2, 6, none⟩ = some (.int .u64 0) := by rw [cell_of_row _ _ 6 _ _ _ KB2.out]; rfl
  have c2_7 : X4.cell? ⟨i2, 7, none⟩ = some (.slice none 0 0) := by rw [cell_of_row _ _ 7 _ _ _ KB2.out]; rfl
  have c0_0 : X4.cell? ⟨i0, 0, none⟩ = some (.pointer (some ⟨br, 0, none⟩)) := by rw [cell_of_row _ _ 0 _ _ _ KB0.out]; rfl
  go_wp2_with fail
  have HS2 := aside (show w.heap.size ≤ X4.heap.size from KK.out.size)
  refine (C3.out _ RR.out).mono ?_
  rintro r w5 ⟨ea, el, ec, rfl, OW1, R1, k1⟩
  clear c2_0 c2_1 c2_2 c2_3 c2_4 c2_5 c2_6 c2_7 c0_0
  replace KB0 := aside ((k1.block i0 (Array.getElem?_eq_some_iff.1 KB0.out).1 (fun h => by have := HN.out; omega)).trans KB0.out)
  replace KB1 := aside ((k1.block i1 (Array.getElem?_eq_some_iff.1 KB1.out).1 (fun h => by have := HN.out; omega)).trans KB1.out)
  replace KB2 := aside ((k1.block i2 (Array.getElem?_eq_some_iff.1 KB2.out).1 (fun h => by have := HN.out; omega)).trans KB2.out)
  replace KK := aside (KK.out.trans k1)
  replace RR := aside R1
  clear k1 R1
  have OW := aside (own_low OW1 HS2.out)
  clear OW1
  have c2_0 : w5.cell? ⟨i2, 0, none⟩ = some (.int .i64 3) := by rw [cell_of_row _ _ 0 _ _ _ KB2.out]; rfl
  have f2_0 := frozen_of_row _ _ 0 _ _ KB2.out
  have c2_1 : w5.cell? ⟨i2, 1, none⟩ = some (.string lo) := by rw [cell_of_row _ _ 1 _ _ _ KB2.out]; rfl
  have f2_1 := frozen_of_row _ _ 1 _ _ KB2.out
  have c2_2 : w5.cell? ⟨i2, 2, none⟩ = some (.string hi) := by rw [cell_of_row _ _ 2 _ _ _ KB2.out]; rfl
  have f2_2 := frozen_of_row _ _ 2 _ _ KB2.out
  have c2_3 : w5.cell? ⟨i2, 3, none⟩ = some (.bool op) := by rw [cell_of_row _ _ 3 _ _ _ KB2.out]; rfl
  have f2_3 := frozen_of_row _ _ 3 _ _ KB2.out
  have c2_4 : w5.cell? ⟨i2, 4, none⟩ = some (.int .i64 0) := by rw [cell_of_row _ _ 4 _ _ _ KB2.out]; rfl
  have f2_4 := frozen_of_row _ _ 4 _ _ KB2.out
  have c2_5 : w5.cell? ⟨i2, 5, none⟩ = some (.int .u64 0) := by rw [cell_of_row _ _ 5 _ _ _ KB2.out]; rfl
  have f2_5 := frozen_of_row _ _ 5 _ _ KB2.out
  have c2_6 : w5.cell? ⟨i2, 6, none⟩ = some (.int .u64 0) := by rw [cell_of_row _ _ 6 _ _ _ KB2.out]; rfl
  have f2_6 := frozen_of_row _ _ 6 _ _ KB2.out
  have c2_7 : w5.cell? ⟨i2, 7, none⟩ = some (.slice none 0 0) := by rw [cell_of_row _ _ 7 _ _ _ KB2.out]; rfl
  have f2_7 := frozen_of_row _ _ 7 _ _ KB2.out
  go_upto_region 11 with fail
  clear c2_0 f2_0 c2_1 f2_1 c2_2 f2_2 c2_3 f2_3 c2_4 f2_4 c2_5 f2_5 c2_6 f2_6 c2_7 f2_7
  have sk := ((Keeps.refl (fun x => x = i2) w5).setCell (p := ⟨i2, 7, none⟩) (fun _ => rfl) (.slice ea el ec))
  replace KB0 := aside ((sk.block i0 (Array.getElem?_eq_some_iff.1 KB0.out).1 (fun h => by have := HN.out; omega)).trans KB0.out)
  replace KB1 := aside ((sk.block i1 (Array.getElem?_eq_some_iff.1 KB1.out).1 (fun h => by have := HN.out; omega)).trans KB1.out)
  replace OW := aside (ownsRow_keep OW.out sk (fun j hj x => own_nots OW.out KB2.out (by decide) (x ▸ hj)))
  have kz := (heap_setCell_same _ i2 7 _ _ (.slice ea el ec) KB2.out)
  simp only [List.setIfInBounds_toArray, List.set_cons_zero, List.set_cons_succ] at kz
  replace KB2 := aside kz
  replace RR := aside (RR.out.keep sk (fun h => by have := HN.out; omega))
  replace KK := aside (KK.out.setCell (p := ⟨i2, 7, none⟩) (fun h => by have := HN.out; simp only at h; omega) (.slice ea el ec))
  clear sk kz
  generalize w5.setCell ⟨i2, 7, none⟩ (.slice ea el ec) = X6 at KK RR KB0 KB1 KB2 OW ⊢
  have c2_0 : X6.cell? ⟨i2, 0, none⟩ = some (.int .i64 3) := by rw [cell_of_row _ _ 0 _ _ _ KB2.out]; rfl
  have c2_1 : X6.cell? ⟨i2, 1, none⟩ = some (.string lo) := by rw [cell_of_row _ _ 1 _ _ _ KB2.out]; rfl
  have c2_2 : X6.cell? ⟨i2, 2, none⟩ = some (.string hi) := by rw [cell_of_row _ _ 2 _ _ _ KB2.out]; rfl
  have c2_3 : X6.cell? ⟨i2, 3, none⟩ = some (.bool op) := by rw [cell_of_row _ _ 3 _ _ _ KB2.out]; rfl
  have c2_4 : X6.cell? ⟨i2, 4, none⟩ = some (.int .i64 0) := by rw [cell_of_row _ _ 4 _ _ _ KB2.out]; rfl
  have c2_5 : X6.cell? ⟨i2, 5, none⟩ = some (.int .u64 0) := by rw [cell_of_row _ _ 5 _ _ _ KB2.out]; rfl
  have c2_6 : X6.cell? ⟨i2, 6, none⟩ = some (.int .u64 0) := by rw [cell_of_row _ _ 6 _ _ _ KB2.out]; rfl
  have c2_7 : X6.cell? ⟨i2, 7, none⟩ = some (.slice ea el ec) := by rw [cell_of_row _ _ 7 _ _ _ KB2.out]; rfl
  have c1_0 : X6.cell? ⟨i1, 0, none⟩ = some (.int .i64 0) := by rw [cell_of_row _ _ 0 _ _ _ KB1.out]; rfl
  have f1_0 := frozen_of_row _ _ 0 _ _ KB1.out
  have c1_1 : X6.cell? ⟨i1, 1, none⟩ = some (.string ⟨#[]⟩) := by rw [cell_of_row _ _ 1 _ _ _ KB1.out]; rfl
  have f1_1 := frozen_of_row _ _ 1 _ _ KB1.out
  have c1_2 : X6.cell? ⟨i1, 2, none⟩ = some (.string ⟨#[]⟩) := by rw [cell_of_row _ _ 2 _ _ _ KB1.out]; rfl
  have f1_2 := frozen_of_row _ _ 2 _ _ KB1.out
  have c1_3 : X6.cell? ⟨i1, 3, none⟩ = some (.bool false) := by rw [cell_of_row _ _ 3 _ _ _ KB1.out]; rfl
  have f1_3 := frozen_of_row _ _ 3 _ _ KB1.out
  have c1_4 : X6.cell? ⟨i1, 4, none⟩ = some (.int .i64 0) := by rw [cell_of_row _ _ 4 _ _ _ KB1.out]; rfl
  have f1_4 := frozen_of_row _ _ 4 _ _ KB1.out
  have c1_5 : X6.cell? ⟨i1, 5, none⟩ = some (.int .u64 0) := by rw [cell_of_row _ _ 5 _ _ _ KB1.out]; rfl
  have f1_5 := frozen_of_row _ _ 5 _ _ KB1.out
  have c1_6 : X6.cell? ⟨i1, 6, none⟩ = some (.int .u64 0) := by rw [cell_of_row _ _ 6 _ _ _ KB1.out]; rfl
  have f1_6 := frozen_of_row _ _ 6 _ _ KB1.out
  have c1_7 : X6.cell? ⟨i1, 7, none⟩ = some (.slice none 0 0) := by rw [cell_of_row _ _ 7 _ _ _ KB1.out]; rfl
  have f1_7 := frozen_of_row _ _ 7 _ _ KB1.out
  have SK := aside ((((((((((Keeps.refl (fun x => x = i1) X6).setCell (p := ⟨i1, 0, none⟩) (fun _ => rfl) (.int .i64 3)).setCell (p := ⟨i1, 1, none⟩) (fun _ => rfl) (.string lo)).setCell (p := ⟨i1, 2, none⟩) (fun _ => rfl) (.string hi)).setCell (p := ⟨i1, 3, none⟩) (fun _ => rfl) (.bool op)).setCell (p := ⟨i1, 4, none⟩) (fun _ => rfl) (.int .i64 0)).setCell (p := ⟨i1, 5, none⟩) (fun _ => rfl) (.int .u64 0)).setCell (p := ⟨i1, 6, none⟩) (fun _ => rfl) (.int .u64 0)).setCell (p := ⟨i1, 7, none⟩) (fun _ => rfl) (.slice ea el ec)))
  have KF := aside (((((((((KK.out.setCell (p := ⟨i1, 0, none⟩) (fun h => by have := HN.out; simp only at h; omega) (.int .i64 3)).setCell (p := ⟨i1, 1, none⟩) (fun h => by have := HN.out; simp only at h; omega) (.string lo)).setCell (p := ⟨i1, 2, none⟩) (fun h => by have := HN.out; simp only at h; omega) (.string hi)).setCell (p := ⟨i1, 3, none⟩) (fun h => by have := HN.out; simp only at h; omega) (.bool op)).setCell (p := ⟨i1, 4, none⟩) (fun h => by have := HN.out; simp only at h; omega) (.int .i64 0)).setCell (p := ⟨i1, 5, none⟩) (fun h => by have := HN.out; simp only at h; omega) (.int .u64 0)).setCell (p := ⟨i1, 6, none⟩) (fun h => by have := HN.out; simp only at h; omega) (.int .u64 0)).setCell (p := ⟨i1, 7, none⟩) (fun h => by have := HN.out; simp only at h; omega) (.slice ea el ec)))
  have kz := (heap_setCell_same _ i1 7 _ _ (.slice ea el ec) (heap_setCell_same _ i1 6 _ _ (.int .u64 0) (heap_setCell_same _ i1 5 _ _ (.int .u64 0) (heap_setCell_same _ i1 4 _ _ (.int .i64 0) (heap_setCell_same _ i1 3 _ _ (.bool op) (heap_setCell_same _ i1 2 _ _ (.string hi) (heap_setCell_same _ i1 1 _ _ (.string lo) (heap_setCell_same _ i1 0 _ _ (.int .i64 3) KB1.out))))))))
  simp only [List.setIfInBounds_toArray, List.set_cons_zero, List.set_cons_succ] at kz
  have KR := aside kz
  clear kz
  go_wp2
  exact bodyPost_ret (v := .agg #[.int .i64 3, .string lo, .string hi, .bool op, .int .i64 0, .int .u64 0, .int .u64 0, .slice ea el ec]) (by simp [results, Try.results58, go_sem, cell_of_row _ _ 0 _ _ _ KR.out, cell_of_row _ _ 1 _ _ _ KR.out, cell_of_row _ _ 2 _ _ _ KR.out, cell_of_row _ _ 3 _ _ _ KR.out, cell_of_row _ _ 4 _ _ _ KR.out, cell_of_row _ _ 5 _ _ _ KR.out, cell_of_row _ _ 6 _ _ _ KR.out, cell_of_row _ _ 7 _ _ _ KR.out]) rfl ⟨ea, el, ec, rfl, ownsRow_keep OW.out SK.out (fun j hj x => own_nots OW.out KB1.out (by decide) (x ▸ hj)), RR.out.keep SK.out (fun h => by have := HN.out; omega), KF.out⟩
theorem rpart_at {br : Nat} {s : ByteArray} {l : List UInt8} {w : World} {p p' : Nat} {e e' : Int} {v : PV} (h : OneR br s l p e w) (hp : partSt l p e = (v, p', e')) :
    Calls Try.prog 58 #[.agg #[.pointer (some ⟨br, 0, none⟩)]] w fun r w' => ∃ a' n' c', r = .returned (.agg #[.int .i64 v.kind, .string v.lo, .string v.hi, .bool v.op, .int .i64 v.cnt, .int .u64 (v.s0 : Int), .int .u64 (v.s1 : Int), .slice a' n' c']) ∧ w'.ownsRow w.heap.size 50 5 (.slice a' n' c') n' (entCells v.es) ∧ OneR br s l p' e' w' ∧ Keeps (fun x => x = br) w w' := by
  rcases h1 : numSt l p e 3 with ⟨k, p1, e1⟩
  rcases h2 : keysSt l p1 e1 with ⟨⟨lo, hi, op⟩, p2, e2⟩
  obtain ⟨k0, k3⟩ := numSt_most (by omega) h.le h1
  by_cases hk1 : k = 1
  · subst hk1
    rcases h3 : tallySt l p2 e2 with ⟨⟨c, a, b⟩, p3, e3⟩
    rw [partSt_print h1 h2 h3] at hp
    simp only [Prod.mk.injEq] at hp
    obtain ⟨rfl, rfl, rfl⟩ := hp
    exact rpart_1 h h1 h2 h3
  · by_cases hk : k = 2 ∨ k = 3
    · rcases h3 : entriesSt l p2 e2 with ⟨es, p3, e3⟩
      rw [partSt_items h1 h2 hk h3] at hp
      simp only [Prod.mk.injEq] at hp
      obtain ⟨rfl, rfl, rfl⟩ := hp
      rcases hk with rfl | rfl
      · exact rpart_2 h h1 h2 h3
      · exact rpart_3 h h1 h2 h3
    · obtain rfl : k = 0 := by omega
      rw [partSt_none h1 h2 hk1 hk] at hp
      simp only [Prod.mk.injEq] at hp
      obtain ⟨rfl, rfl, rfl⟩ := hp
      exact rpart_0 h h1 h2
end Go.Proofs.Ytbnppmkdhnpdfaa

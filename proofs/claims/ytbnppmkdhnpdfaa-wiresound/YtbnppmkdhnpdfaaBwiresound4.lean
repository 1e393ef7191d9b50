/-
  A part read by the reader of frames.
  The law ItemOrder, walked: it returns true at any three versions.
  Names of sessions: which may be, how they compare; the code's calls and the document's own, each as a plain function.
  Plain mathematics of ranges of keys: which may be, which are empty, which keys they hold.
  Check, the code's and the document's own: each returns the number that the plain function gives, and writes nothing that was there.
  Empty and Holds, the code's and the document's own: each returns what the plain function gives, and writes nothing that was there.
  Parts of frames, plain: which may be, one by one and all of them.
-/
import Derived.Test.YtbnppmkdhnpdfaaBwiresound3
import Derived.Deep.CutBlock
import Derived.Deep.DeepCutAuto
import Derived.Test.YtbnppmkdhnpdfaaBwiresound1
import Derived.Laws.StructEq
import Derived.Test.YtbnppmkdhnpdfaaProg
import Derived.WalkKit
import Derived.Laws.Cover1
import Derived.WalkSpells
import Derived.WalkLawsBesides
import Derived.KernelRfl
import Derived.Below
import Derived.Laws.IdiomStrings
namespace Go.Proofs.Ytbnppmkdhnpdfaa
open Go.RowKit
set_option linter.unusedVariables false
set_option maxRecDepth 100000 in
set_option maxHeartbeats 3200000 in
theorem rpart_0 {br : Nat} {s : ByteArray} {l : List UInt8} {w : World} {p p1 p2 : Nat} {e e1 e2 : Int} {lo hi : ByteArray} {op : Bool} (h : OneR br s l p e w) (h1 : numSt l p e 3 = (0, p1, e1)) (h2 : keysSt l p1 e1 = ((lo, hi, op), p2, e2)) :
    Calls Try.prog 58 #[.agg #[.pointer (some ⟨br, 0, none⟩)]] w fun r w' => ∃ a' n' c', r = .returned (.agg #[.int .i64 0, .string lo, .string hi, .bool op, .int .i64 0, .int .u64 0, .int .u64 0, .slice a' n' c']) ∧ w'.ownsRow w.heap.size 50 5 (.slice a' n' c') n' (entCells []) ∧ OneR br s l p2 (failOf e2 114) w' ∧ Keeps (fun x => x = br) w w' := by
  have C1 := aside (fun w (h : OneR br s l p e w) => one_num_at h1 h)
  have C2 := aside (fun w (h : OneR br s l p1 e1 w) => rkeys_at h h2)
  have C3 := aside (fun w (h : OneR br s l p2 e2 w) => one_fail_at (x := 114) rfl h)
  clear h1 h2
  have z0 := heap_alloc_new w (.cells #[.pointer (some ⟨br, 0, none⟩)] 72)
  have z1 := heap_alloc_new (w.alloc (.cells #[.pointer (some ⟨br, 0, none⟩)] 72)) (.cells #[.int .i64 0, .string ⟨#[]⟩, .string ⟨#[]⟩, .bool false, .int .i64 0, .int .u64 0, .int .u64 0, .slice none 0 0] 46)
  simp only [World.size_alloc] at z1
  replace z0 := blk_on z0 (bnew _ (.cells #[.int .i64 0, .string ⟨#[]⟩, .string ⟨#[]⟩, .bool false, .int .i64 0, .int .u64 0, .int .u64 0, .slice none 0 0] 46))
  have z2 := heap_alloc_new ((w.alloc (.cells #[.pointer (some ⟨br, 0, none⟩)] 72)).alloc (.cells #[.int .i64 0, .string ⟨#[]⟩, .string ⟨#[]⟩, .bool false, .int .i64 0, .int .u64 0, .int .u64 0, .slice none 0 0] 46)) (.cells #[.int .i64 0, .string ⟨#[]⟩, .string ⟨#[]⟩, .bool false, .int .i64 0, .int .u64 0, .int .u64 0, .slice none 0 0] 46)
  simp only [World.size_alloc] at z2
  replace z0 := blk_on z0 (bnew _ (.cells #[.int .i64 0, .string ⟨#[]⟩, .string ⟨#[]⟩, .bool false, .int .i64 0, .int .u64 0, .int .u64 0, .slice none 0 0] 46))
  replace z1 := blk_on z1 (bnew _ (.cells #[.int .i64 0, .string ⟨#[]⟩, .string ⟨#[]⟩, .bool false, .int .i64 0, .int .u64 0, .int .u64 0, .slice none 0 0] 46))
  have hk0 : Keeps (fun x => x = br) w (((w.alloc (.cells #[.pointer (some ⟨br, 0, none⟩)] 72)).alloc (.cells #[.int .i64 0, .string ⟨#[]⟩, .string ⟨#[]⟩, .bool false, .int .i64 0, .int .u64 0, .int .u64 0, .slice none 0 0] 46)).alloc (.cells #[.int .i64 0, .string ⟨#[]⟩, .string ⟨#[]⟩, .bool false, .int .i64 0, .int .u64 0, .int .u64 0, .slice none 0 0] 46)) := (((Keeps.refl (fun x => x = br) w).alloc (.cells #[.pointer (some ⟨br, 0, none⟩)] 72)).alloc (.cells #[.int .i64 0, .string ⟨#[]⟩, .string ⟨#[]⟩, .bool false, .int .i64 0, .int .u64 0, .int .u64 0, .slice none 0 0] 46)).alloc (.cells #[.int .i64 0, .string ⟨#[]⟩, .string ⟨#[]⟩, .bool false, .int .i64 0, .int .u64 0, .int .u64 0, .slice none 0 0] 46)
  have hr0 := h.keep ((((Keeps.refl (fun _ => False) w).alloc (.cells #[.pointer (some ⟨br, 0, none⟩)] 72)).alloc (.cells #[.int .i64 0, .string ⟨#[]⟩, .string ⟨#[]⟩, .bool false, .int .i64 0, .int .u64 0, .int .u64 0, .slice none 0 0] 46)).alloc (.cells #[.int .i64 0, .string ⟨#[]⟩, .string ⟨#[]⟩, .bool false, .int .i64 0, .int .u64 0, .int .u64 0, .slice none 0 0] 46)) (fun h => h)
  have HBR := aside h.lt
  clear h
  have KB0 := aside z0
  have KB1 := aside z1
  have KB2 := aside z2
  have KK := aside hk0
  have RR := aside hr0
  clear hk0 hr0 z0 z1 z2
  go_enter Try.func58, Try.ntmps58
  go_wp2_with fail
  obtain ⟨i0, hi0⟩ : ∃ i0, w.heap.size = i0 := ⟨_, rfl⟩
  obtain ⟨i1, hi1⟩ : ∃ i1, i0 + 1 = i1 := ⟨_, rfl⟩
  obtain ⟨i2, hi2⟩ : ∃ i2, i1 + 1 = i2 := ⟨_, rfl⟩
  have HN := aside (show w.heap.size ≤ i0 ∧ br ≠ i0 ∧ w.heap.size ≤ i1 ∧ br ≠ i1 ∧ w.heap.size ≤ i2 ∧ br ≠ i2 ∧ i0 ≠ i1 ∧ i0 ≠ i2 ∧ i1 ≠ i0 ∧ i1 ≠ i2 ∧ i2 ≠ i0 ∧ i2 ≠ i1 from by have := HBR.out; omega)
  rw [hi0, hi1, hi2] at ⊢
  rw [hi0] at KB0
  rw [hi0, hi1] at KB1
  rw [hi0, hi1, hi2] at KB2
  clear hi0 hi1 hi2
  generalize ((w.alloc (.cells #[.pointer (some ⟨br, 0, none⟩)] 72)).alloc (.cells #[.int .i64 0, .string ⟨#[]⟩, .string ⟨#[]⟩, .bool false, .int .i64 0, .int .u64 0, .int .u64 0, .slice none 0 0] 46)).alloc (.cells #[.int .i64 0, .string ⟨#[]⟩, .string ⟨#[]⟩, .bool false, .int .i64 0, .int .u64 0, .int .u64 0, .slice none 0 0] 46) = X0 at KK RR KB0 KB1 KB2 ⊢
  refine (C1.out _ RR.out).mono ?_
  rintro r w1 ⟨rfl, R1, k1⟩
  replace KB0 := aside ((k1.block i0 (Array.getElem?_eq_some_iff.1 KB0.out).1 (fun h => by have := HN.out; omega)).trans KB0.out)
  replace KB1 := aside ((k1.block i1 (Array.getElem?_eq_some_iff.1 KB1.out).1 (fun h => by have := HN.out; omega)).trans KB1.out)
  replace KB2 := aside ((k1.block i2 (Array.getElem?_eq_some_iff.1 KB2.out).1 (fun h => by have := HN.out; omega)).trans KB2.out)
  replace KK := aside (KK.out.trans k1)
  replace RR := aside R1
  clear k1 R1
  have c2_0 : w1.cell? ⟨i2, 0, none⟩ = some (.int .i64 0) := by rw [cell_of_row _ _ 0 _ _ _ KB2.out]; rfl
  have f2_0 := frozen_of_row _ _ 0 _ _ KB2.out
  have c2_1 : w1.cell? ⟨i2, 1, none⟩ = some (.string ⟨#[]⟩) := by rw [cell_of_row _ _ 1 _ _ _ KB2.out]; rfl
  have f2_1 := frozen_of_row _ _ 1 _ _ KB2.out
  have c2_2 : w1.cell? ⟨i2, 2, none⟩ = some (.string ⟨#[]⟩) := by rw [cell_of_row _ _ 2 _ _ _ KB2.out]; rfl
  have f2_2 := frozen_of_row _ _ 2 _ _ KB2.out
  have c2_3 : w1.cell? ⟨i2, 3, none⟩ = some (.bool false) := by rw [cell_of_row _ _ 3 _ _ _ KB2.out]; rfl
  have f2_3 := frozen_of_row _ _ 3 _ _ KB2.out
  have c2_4 : w1.cell? ⟨i2, 4, none⟩ = some (.int .i64 0) := by rw [cell_of_row _ _ 4 _ _ _ KB2.out]; rfl
  have f2_4 := frozen_of_row _ _ 4 _ _ KB2.out
  have c2_5 : w1.cell? ⟨i2, 5, none⟩ = some (.int .u64 0) := by rw [cell_of_row _ _ 5 _ _ _ KB2.out]; rfl
  have f2_5 := frozen_of_row _ _ 5 _ _ KB2.out
  have c2_6 : w1.cell? ⟨i2, 6, none⟩ = some (.int .u64 0) := by rw [cell_of_row _ _ 6 _ _ _ KB2.out]; rfl
  have f2_6 := frozen_of_row _ _ 6 _ _ KB2.out
  have c2_7 : w1.cell? ⟨i2, 7, none⟩ = some (.slice none 0 0) := by rw [cell_of_row _ _ 7 _ _ _ KB2.out]; rfl
  have f2_7 := frozen_of_row _ _ 7 _ _ KB2.out
  go_upto_region 3 with fail
  clear c2_0 f2_0 c2_1 f2_1 c2_2 f2_2 c2_3 f2_3 c2_4 f2_4 c2_5 f2_5 c2_6 f2_6 c2_7 f2_7
  have sk := ((Keeps.refl (fun x => x = i2) w1).setCell (p := ⟨i2, 0, none⟩) (fun _ => rfl) (.int .i64 0))
  replace KB0 := aside ((sk.block i0 (Array.getElem?_eq_some_iff.1 KB0.out).1 (fun h => by have := HN.out; omega)).trans KB0.out)
  replace KB1 := aside ((sk.block i1 (Array.getElem?_eq_some_iff.1 KB1.out).1 (fun h => by have := HN.out; omega)).trans KB1.out)
  have kz := (heap_setCell_same _ i2 0 _ _ (.int .i64 0) KB2.out)
  simp only [List.setIfInBounds_toArray, List.set_cons_zero] at kz
  replace KB2 := aside kz
  replace RR := aside (RR.out.keep sk (fun h => by have := HN.out; omega))
  replace KK := aside (KK.out.setCell (p := ⟨i2, 0, none⟩) (fun h => by have := HN.out; simp only at h; omega) (.int .i64 0))
  clear sk kz
  generalize w1.setCell ⟨i2, 0, none⟩ (.int .i64 0) = X2 at KK RR KB0 KB1 KB2  ⊢
  have c0_0 : X2.cell? ⟨i0, 0, none⟩ = some (.pointer (some ⟨br, 0, none⟩)) := by rw [cell_of_row _ _ 0 _ _ _ KB0.out]; rfl
  go_wp2_with fail
  refine (C2.out _ RR.out).mono ?_
  rintro r w3 ⟨rfl, R1, k1⟩
  clear c0_0
  replace KB0 := aside ((k1.block i0 (Array.getElem?_eq_some_iff.1 KB0.out).1 (fun h => by have := HN.out; omega)).trans KB0.out)
  replace KB1 := aside ((k1.block i1 (Array.getElem?_eq_some_iff.1 KB1.out).1 (fun h => by have := HN.out; omega)).trans KB1.out)
  replace KB2 := aside ((k1.block i2 (Array.getElem?_eq_some_iff.1 KB2.out).1 (fun h => by have := HN.out; omega)).trans KB2.out)
  replace KK := aside (KK.out.trans k1)
  replace RR := aside R1
  clear k1 R1
  have c2_0 : w3.cell? ⟨i2, 0, none⟩ = some (.int .i64 0) := by rw [cell_of_row _ _ 0 _ _ _ KB2.out]; rfl
  have f2_0 := frozen_of_row _ _ 0 _ _ KB2.out
  have c2_1 : w3.cell? ⟨i2, 1, none⟩ = some (.string ⟨#[]⟩) := by rw [cell_of_row _ _ 1 _ _ _ KB2.out]; rfl
  have f2_1 := frozen_of_row _ _ 1 _ _ KB2.out
  have c2_2 : w3.cell? ⟨i2, 2, none⟩ = some (.string ⟨#[]⟩) := by rw [cell_of_row _ _ 2 _ _ _ KB2.out]; rfl
  have f2_2 := frozen_of_row _ _ 2 _ _ KB2.out
  have c2_3 : w3.cell? ⟨i2, 3, none⟩ = some (.bool false) := by rw [cell_of_row _ _ 3 _ _ _ KB2.out]; rfl
  have f2_3 := frozen_of_row _ _ 3 _ _ KB2.out
  have c2_4 : w3.cell? ⟨i2, 4, none⟩ = some (.int .i64 0) := by rw [cell_of_row _ _ 4 _ _ _ KB2.out]; rfl
  have f2_4 := frozen_of_row _ _ 4 _ _ KB2.out
  have c2_5 : w3.cell? ⟨i2, 5, none⟩ = some (.int .u64 0) := by rw [cell_of_row _ _ 5 _ _ _ KB2.out]; rfl
  have f2_5 := frozen_of_row _ _ 5 _ _ KB2.out
  have c2_6 : w3.cell? ⟨i2, 6, none⟩ = some (.int .u64 0) := by rw [cell_of_row _ _ 6 _ _ _ KB2.out]; rfl
  have f2_6 := frozen_of_row _ _ 6 _ _ KB2.out
  have c2_7 : w3.cell? ⟨i2, 7, none⟩ = some (.slice none 0 0) := by rw [cell_of_row _ _ 7 _ _ _ KB2.out]; rfl
  have f2_7 := frozen_of_row _ _ 7 _ _ KB2.out
  go_upto_region 4 with fail
  clear c2_0 f2_0 c2_1 f2_1 c2_2 f2_2 c2_3 f2_3 c2_4 f2_4 c2_5 f2_5 c2_6 f2_6 c2_7 f2_7
  have sk := ((((Keeps.refl (fun x => x = i2) w3).setCell (p := ⟨i2, 1, none⟩) (fun _ => rfl) (.string lo)).setCell (p := ⟨i2, 2, none⟩) (fun _ => rfl) (.string hi)).setCell (p := ⟨i2, 3, none⟩) (fun _ => rfl) (.bool op))
  replace KB0 := aside ((sk.block i0 (Array.getElem?_eq_some_iff.1 KB0.out).1 (fun h => by have := HN.out; omega)).trans KB0.out)
  replace KB1 := aside ((sk.block i1 (Array.getElem?_eq_some_iff.1 KB1.out).1 (fun h => by have := HN.out; omega)).trans KB1.out)
  have kz := (heap_setCell_same _ i2 3 _ _ (.bool op) (heap_setCell_same _ i2 2 _ _ (.string hi) (heap_setCell_same _ i2 1 _ _ (.string lo) KB2.out)))
  simp only [List.setIfInBounds_toArray, List.set_cons_zero, List.set_cons_succ] at kz
  replace KB2 := aside kz
  replace RR := aside (RR.out.keep sk (fun h => by have := HN.out; omega))
  replace KK := aside (((KK.out.setCell (p := ⟨i2, 1, none⟩) (fun h => by have := HN.out; simp only at h; omega) (.string lo)).setCell (p := ⟨i2, 2, none⟩) (fun h => by have := HN.out; simp only at h; omega) (.string hi)).setCell (p := ⟨i2, 3, none⟩) (fun h => by have := HN.out; simp only at h; omega) (.bool op))
  clear sk kz
  generalize ((w3.setCell ⟨i2, 1, none⟩ (.string lo)).setCell ⟨i2, 2, none⟩ (.string hi)).setCell ⟨i2, 3, none⟩ (.bool op) = X4 at KK RR KB0 KB1 KB2  ⊢
  have c2_0 : X4.cell? ⟨i2, 0, none⟩ = some (.int .i64 0) := by rw [cell_of_row _ _ 0 _ _ _ KB2.out]; rfl
  have c2_1 : X4.cell? ⟨i2, 1, none⟩ = some (.string lo) := by rw [cell_of_row _ _ 1 _ _ _ KB2.out]; rfl
  have c2_2 : X4.cell? ⟨i2, 2, none⟩ = some (.string hi) := by rw [cell_of_row _ _ 2 _ _ _ KB2.out]; rfl
  have c2_3 : X4.cell? ⟨i2, 3, none⟩ = some (.bool op) := by rw [cell_of_row _ _ 3 _ _ _ KB2.out]; rfl
  have c2_4 : X4.cell? ⟨i2, 4, none⟩ = some (.int .i64 0) := by rw [cell_of_row _ _ 4 _ _ _ KB2.out]; rfl
  have c2_5 : X4.cell? ⟨i2, 5, none⟩ = some (.int .u64 0) := by rw [cell_of_row _ _ 5 _ _ _ KB2.out]; rfl
  have c2_6 : X4.cell? ⟨i2, 6, none⟩ = some (.int .u64 0) := by rw [cell_of_row _ _ 6 _ _ _ KB2.out]; rfl
  have c2_7 : X4.cell? ⟨i2, 7, none⟩ = some (.slice none 0 0) := by rw [cell_of_row _ _ 7 _ _ _ KB2.out]; rfl
  have c0_0 : X4.cell? ⟨i0, 0, none⟩ = some (.pointer (some ⟨br, 0, none⟩)) := by rw [cell_of_row _ _ 0 _ _ _ KB0.out]; rfl
  go_wp2_with fail
  refine (C3.out _ RR.out).mono ?_
  rintro r w5 ⟨rfl, R1, k1⟩
  clear c2_0 c2_1 c2_2 c2_3 c2_4 c2_5 c2_6 c2_7 c0_0
  replace KB0 := aside ((k1.block i0 (Array.getElem?_eq_some_iff.1 KB0.out).1 (fun h => by have := HN.out; omega)).trans KB0.out)
  replace KB1 := aside ((k1.block i1 (Array.getElem?_eq_some_iff.1 KB1.out).1 (fun h => by have := HN.out; omega)).trans KB1.out)
  replace KB2 := aside ((k1.block i2 (Array.getElem?_eq_some_iff.1 KB2.out).1 (fun h => by have := HN.out; omega)).trans KB2.out)
  replace KK := aside (KK.out.trans k1)
  replace RR := aside R1
  clear k1 R1
  go_upto_region 11 with fail
  have c2_0 : w5.cell? ⟨i2, 0, none⟩ = some (.int .i64 0) := by rw [cell_of_row _ _ 0 _ _ _ KB2.out]; rfl
  have c2_1 : w5.cell? ⟨i2, 1, none⟩ = some (.string lo) := by rw [cell_of_row _ _ 1 _ _ _ KB2.out]; rfl
  have c2_2 : w5.cell? ⟨i2, 2, none⟩ = some (.string hi) := by rw [cell_of_row _ _ 2 _ _ _ KB2.out]; rfl
  have c2_3 : w5.cell? ⟨i2, 3, none⟩ = some (.bool op) := by rw [cell_of_row _ _ 3 _ _ _ KB2.out]; rfl
  have c2_4 : w5.cell? ⟨i2, 4, none⟩ = some (.int .i64 0) := by rw [cell_of_row _ _ 4 _ _ _ KB2.out]; rfl
  have c2_5 : w5.cell? ⟨i2, 5, none⟩ = some (.int .u64 0) := by rw [cell_of_row _ _ 5 _ _ _ KB2.out]; rfl
  have c2_6 : w5.cell? ⟨i2, 6, none⟩ = some (.int .u64 0) := by rw [cell_of_row _ _ 6 _ _ _ KB2.out]; rfl
  have c2_7 : w5.cell? ⟨i2, 7, none⟩ = some (.slice none 0 0) := by rw [cell_of_row _ _ 7 _ _ _ KB2.out]; rfl
  have c1_0 : w5.cell? ⟨i1, 0, none⟩ = some (.int .i64 0) := by rw [cell_of_row _ _ 0 _ _ _ KB1.out]; rfl
  have f1_0 := frozen_of_row _ _ 0 _ _ KB1.out
  have c1_1 : w5.cell? ⟨i1, 1, none⟩ = some (.string ⟨#[]⟩) := by rw [cell_of_row _ _ 1 _ _ _ KB1.out]; rfl
  have f1_1 := frozen_of_row _ _ 1 _ _ KB1.out
  have c1_2 : w5.cell? ⟨i1, 2, none⟩ = some (.string ⟨#[]⟩) := by rw [cell_of_row _ _ 2 _ _ _ KB1.out]; rfl
  have f1_2 := frozen_of_row _ _ 2 _ _ KB1.out
  have c1_3 : w5.cell? ⟨i1, 3, none⟩ = some (.bool false) := by rw [cell_of_row _ _ 3 _ _ _ KB1.out]; rfl
  have f1_3 := frozen_of_row _ _ 3 _ _ KB1.out
  have c1_4 : w5.cell? ⟨i1, 4, none⟩ = some (.int .i64 0) := by rw [cell_of_row _ _ 4 _ _ _ KB1.out]; rfl
  have f1_4 := frozen_of_row _ _ 4 _ _ KB1.out
  have c1_5 : w5.cell? ⟨i1, 5, none⟩ = some (.int .u64 0) := by rw [cell_of_row _ _ 5 _ _ _ KB1.out]; rfl
  have f1_5 := frozen_of_row _ _ 5 _ _ KB1.out
  have c1_6 : w5.cell? ⟨i1, 6, none⟩ = some (.int .u64 0) := by rw [cell_of_row _ _ 6 _ _ _ KB1.out]; rfl
  have f1_6 := frozen_of_row _ _ 6 _ _ KB1.out
  have c1_7 : w5.cell? ⟨i1, 7, none⟩ = some (.slice none 0 0) := by rw [cell_of_row _ _ 7 _ _ _ KB1.out]; rfl
  have f1_7 := frozen_of_row _ _ 7 _ _ KB1.out
  have SK := aside ((((((((((Keeps.refl (fun x => x = i1) w5).setCell (p := ⟨i1, 0, none⟩) (fun _ => rfl) (.int .i64 0)).setCell (p := ⟨i1, 1, none⟩) (fun _ => rfl) (.string lo)).setCell (p := ⟨i1, 2, none⟩) (fun _ => rfl) (.string hi)).setCell (p := ⟨i1, 3, none⟩) (fun _ => rfl) (.bool op)).setCell (p := ⟨i1, 4, none⟩) (fun _ => rfl) (.int .i64 0)).setCell (p := ⟨i1, 5, none⟩) (fun _ => rfl) (.int .u64 0)).setCell (p := ⟨i1, 6, none⟩) (fun _ => rfl) (.int .u64 0)).setCell (p := ⟨i1, 7, none⟩) (fun _ => rfl) (.slice none 0 0)))
  have KF := aside (((((((((KK.out.setCell (p := ⟨i1, 0, none⟩) (fun h => by have := HN.out; simp only at h; omega) (.int .i64 0)).setCell (p := ⟨i1, 1, none⟩) (fun h => by have := HN.out; simp only at h; omega) (.string lo)).setCell (p := ⟨i1, 2, none⟩) (fun h => by have := HN.out; simp only at h; omega) (.string hi)).setCell (p := ⟨i1, 3, none⟩) (fun h => by have := HN.out; simp only at h; omega) (.bool op)).setCell (p := ⟨i1, 4, none⟩) (fun h => by have := HN.out; simp only at h; omega) (.int .i64 0)).setCell (p := ⟨i1, 5, none⟩) (fun h => by have := HN.out; simp only at h; omega) (.int .u64 0)).setCell (p := ⟨i1, 6, none⟩) (fun h => by have := HN.out; simp only at h; omega) (.int .u64 0)).setCell (p := ⟨i1, 7, none⟩) (fun h => by have := HN.out; simp only at h; omega) (.slice none 0 0)))
  have kz := (heap_setCell_same _ i1 7 _ _ (.slice none 0 0) (heap_setCell_same _ i1 6 _ _ (.int .u64 0) (heap_setCell_same _ i1 5 _ _ (.int .u64 0) (heap_setCell_same _ i1 4 _ _ (.int .i64 0) (heap_setCell_same _ i1 3 _ _ (.bool op) (heap_setCell_same _ i1 2 _ _ (.string hi) (heap_setCell_same _ i1 1 _ _ (.string lo) (heap_setCell_same _ i1 0 _ _ (.int .i64 0) KB1.out))))))))
  simp only [List.setIfInBounds_toArray, List.set_cons_zero, List.set_cons_succ] at kz
  have KR := aside kz
  clear kz
  go_wp2
  exact bodyPost_ret (v := .agg #[.int .i64 0, .string lo, .string hi, .bool op, .int .i64 0, .int .u64 0, .int .u64 0, .slice none 0 0]) (by simp [results, Try.results58, go_sem, cell_of_row _ _ 0 _ _ _ KR.out, cell_of_row _ _ 1 _ _ _ KR.out, cell_of_row _ _ 2 _ _ _ KR.out, cell_of_row _ _ 3 _ _ _ KR.out, cell_of_row _ _ 4 _ _ _ KR.out, cell_of_row _ _ 5 _ _ _ KR.out, cell_of_row _ _ 6 _ _ _ KR.out, cell_of_row _ _ 7 _ _ _ KR.out]) rfl ⟨none, 0, 0, rfl, ⟨rfl, .inl ⟨rfl, rfl⟩⟩, RR.out.keep SK.out (fun h => by have := HN.out; omega), KF.out⟩
set_option maxRecDepth 100000 in
set_option maxHeartbeats 3200000 in
theorem rpart_1 {br : Nat} {s : ByteArray} {l : List UInt8} {w : World} {p p1 p2 p3 a b : Nat} {e e1 e2 e3 c : Int} {lo hi : ByteArray} {op : Bool} (h : OneR br s l p e w) (h1 : numSt l p e 3 = (1, p1, e1)) (h2 : keysSt l p1 e1 = ((lo, hi, op), p2, e2)) (h3 : tallySt l p2 e2 = ((c, a, b), p3, e3)) :
    Calls Try.prog 58 #[.agg #[.pointer (some ⟨br, 0, none⟩)]] w fun r w' => ∃ a' n' c', r = .returned (.agg #[.int .i64 1, .string lo, .string hi, .bool op, .int .i64 c, .int .u64 (a : Int), .int .u64 (b : Int), .slice a' n' c']) ∧ w'.ownsRow w.heap.size 50 5 (.slice a' n' c') n' (entCells []) ∧ OneR br s l p3 e3 w' ∧ Keeps (fun x => x = br) w w' := by
  have C1 := aside (fun w (h : OneR br s l p e w) => one_num_at h1 h)
  have C2 := aside (fun w (h : OneR br s l p1 e1 w) => rkeys_at h h2)
  have C3 := aside (fun w (h : OneR br s l p2 e2 w) => rtally_at h h3)
  clear h1 h2 h3
  have z0 := heap_alloc_new w (.cells #[.pointer (some ⟨br, 0, none⟩)] 72)
  have z1 := heap_alloc_new (w.alloc (.cells #[.pointer (some ⟨br, 0, none⟩)] 72)) (.cells #[.int .i64 0, .string ⟨#[]⟩, .string ⟨#[]⟩, .bool false, .int .i64 0, .int .u64 0, .int .u64 0, .slice none 0 0] 46)
  simp only [World.size_alloc] at z1
  replace z0 := blk_on z0 (bnew _ (.cells #[.int .i64 0, .string ⟨#[]⟩, .string ⟨#[]⟩, .bool false, .int .i64 0, .int .u64 0, .int .u64 0, .slice none 0 0] 46))
  have z2 := heap_alloc_new ((w.alloc (.cells #[.pointer (some ⟨br, 0, none⟩)] 72)).alloc (.cells #[.int .i64 0, .string ⟨#[]⟩, .string ⟨#[]⟩, .bool false, .int .i64 0, .int .u64 0, .int .u64 0, .slice none 0 0] 46)) (.cells #[.int .i64 0, .string ⟨#[]⟩, .string ⟨#[]⟩, .bool false, .int .i64 0, .int .u64 0, .int .u64 0, .slice none 0 0] 46)
  simp only [World.size_alloc] at z2
  replace z0 := blk_on z0 (bnew _ (.cells #[.int .i64 0, .string ⟨#[]⟩, .string ⟨#[]⟩, .bool false, .int .i64 0, .int .u64 0, .int .u64 0, .slice none 0 0] 46))
  replace z1 := blk_on z1 (bnew _ (.cells #[.int .i64 0, .string ⟨#[]⟩, .string ⟨#[]⟩, .bool false, .int .i64 0, .int .u64 0, .int .u64 0, .slice none 0 0] 46))
  have hk0 : Keeps (fun x => x = br) w (((w.alloc (.cells #[.pointer (some ⟨br, 0, none⟩)] 72)).alloc (.cells #[.int .i64 0, .string ⟨#[]⟩, .string ⟨#[]⟩, .bool false, .int .i64 0, .int .u64 0, .int .u64 0, .slice none 0 0] 46)).alloc (.cells #[.int .i64 0, .string ⟨#[]⟩, .string ⟨#[]⟩, .bool false, .int .i64 0, .int .u64 0, .int .u64 0, .slice none 0 0] 46)) := (((Keeps.refl (fun x => x = br) w).alloc (.cells #[.pointer (some ⟨br, 0, none⟩)] 72)).alloc (.cells #[.int .i64 0, .string ⟨#[]⟩, .string ⟨#[]⟩, .bool false, .int .i64 0, .int .u64 0, .int .u64 0, .slice none 0 0] 46)).alloc (.cells #[.int .i64 0, .string ⟨#[]⟩, .string ⟨#[]⟩, .bool false, .int .i64 0, .int .u64 0, .int .u64 0, .slice none 0 0] 46)
  have hr0 := h.keep ((((Keeps.refl (fun _ => False) w).alloc (.cells #[.pointer (some ⟨br, 0, none⟩)] 72)).alloc (.cells #[.int .i64 0, .string ⟨#[]⟩, .string ⟨#[]⟩, .bool false, .int .i64 0, .int .u64 0, .int .u64 0, .slice none 0 0] 46)).alloc (.cells #[.int .i64 0, .string ⟨#[]⟩, .string ⟨#[]⟩, .bool false, .int .i64 0, .int .u64 0, .int .u64 0, .slice none 0 0] 46)) (fun h => h)
  have HBR := aside h.lt
  clear h
  have KB0 := aside z0
  have KB1 := aside z1
  have KB2 := aside z2
  have KK := aside hk0
  have RR := aside hr0
  clear hk0 hr0 z0 z1 z2
  go_enter Try.func58, Try.ntmps58
  go_wp2_with fail
  obtain ⟨i0, hi0⟩ : ∃ i0, w.heap.size = i0 := ⟨_, rfl⟩
  obtain ⟨i1, hi1⟩ : ∃ i1, i0 + 1 = i1 := ⟨_, rfl⟩
  obtain ⟨i2, hi2⟩ : ∃ i2, i1 + 1 = i2 := ⟨_, rfl⟩
  have HN := aside (show w.heap.size ≤ i0 ∧ br ≠ i0 ∧ w.heap.size ≤ i1 ∧ br ≠ i1 ∧ w.heap.size ≤ i2 ∧ br ≠ i2 ∧ i0 ≠ i1 ∧ i0 ≠ i2 ∧ i1 ≠ i0 ∧ i1 ≠ i2 ∧ i2 ≠ i0 ∧ i2 ≠ i1 from by have := HBR.out; omega)
  rw [hi0, hi1, hi2] at ⊢
  rw [hi0] at KB0
  rw [hi0, hi1] at KB1
  rw [hi0, hi1, hi2] at KB2
  clear hi0 hi1 hi2
  generalize ((w.alloc (.cells #[.pointer (some ⟨br, 0, none⟩)] 72)).alloc (.cells #[.int .i64 0, .string ⟨#[]⟩, .string ⟨#[]⟩, .bool false, .int .i64 0, .int .u64 0, .int .u64 0, .slice none 0 0] 46)).alloc (.cells #[.int .i64 0, .string ⟨#[]⟩, .string ⟨#[]⟩, .bool false, .int .i64 0, .int .u64 0, .int .u64 0, .slice none 0 0] 46) = X0 at KK RR KB0 KB1 KB2 ⊢
  refine (C1.out _ RR.out).mono ?_
  rintro r w1 ⟨rfl, R1, k1⟩
  replace KB0 := aside ((k1.block i0 (Array.getElem?_eq_some_iff.1 KB0.out).1 (fun h => by have := HN.out; omega)).trans KB0.out)
  replace KB1 := aside ((k1.block i1 (Array.getElem?_eq_some_iff.1 KB1.out).1 (fun h => by have := HN.out; omega)).trans KB1.out)
  replace KB2 := aside ((k1.block i2 (Array.getElem?_eq_some_iff.1 KB2.out).1 (fun h => by have := HN.out; omega)).trans KB2.out)
  replace KK := aside (KK.out.trans k1)
  replace RR := aside R1
  clear k1 R1
  have c2_0 : w1.cell? ⟨i2, 0, none⟩ = some (.int .i64 0) := by rw [cell_of_row _ _ 0 _ _ _ KB2.out]; rfl
  have f2_0 := frozen_of_row _ _ 0 _ _ KB2.out
  have c2_1 : w1.cell? ⟨i2, 1, none⟩ = some (.string ⟨#[]⟩) := by rw [cell_of_row _ _ 1 _ _ _ KB2.out]; rfl
  have f2_1 := frozen_of_row _ _ 1 _ _ KB2.out
  have c2_2 : w1.cell? ⟨i2, 2, none⟩ = some (.string ⟨#[]⟩) := by rw [cell_of_row _ _ 2 _ _ _ KB2.out]; rfl
  have f2_2 := frozen_of_row _ _ 2 _ _ KB2.out
  have c2_3 : w1.cell? ⟨i2, 3, none⟩ = some (.bool false) := by rw [cell_of_row _ _ 3 _ _ _ KB2.out]; rfl
  have f2_3 := frozen_of_row _ _ 3 _ _ KB2.out
  have c2_4 : w1.cell? ⟨i2, 4, none⟩ = some (.int .i64 0) := by rw [cell_of_row _ _ 4 _ _ _ KB2.out]; rfl
  have f2_4 := frozen_of_row _ _ 4 _ _ KB2.out
  have c2_5 : w1.cell? ⟨i2, 5, none⟩ = some (.int .u64 0) := by rw [cell_of_row _ _ 5 _ _ _ KB2.out]; rfl
  have f2_5 := frozen_of_row _ _ 5 _ _ KB2.out
  have c2_6 : w1.cell? ⟨i2, 6, none⟩ = some (.int .u64 0) := by rw [cell_of_row _ _ 6 _ _ _ KB2.out]; rfl
  have f2_6 := frozen_of_row _ _ 6 _ _ KB2.out
  have c2_7 : w1.cell? ⟨i2, 7, none⟩ = some (.slice none 0 0) := by rw [cell_of_row _ _ 7 _ _ _ KB2.out]; rfl
  have f2_7 := frozen_of_row _ _ 7 _ _ KB2.out
  go_upto_region 3 with fail
  clear c2_0 f2_0 c2_1 f2_1 c2_2 f2_2 c2_3 f2_3 c2_4 f2_4 c2_5 f2_5 c2_6 f2_6 c2_7 f2_7
  have sk := ((Keeps.refl (fun x => x = i2) w1).setCell (p := ⟨i2, 0, none⟩) (fun _ => rfl) (.int .i64 1))
  replace KB0 := aside ((sk.block i0 (Array.getElem?_eq_some_iff.1 KB0.out).1 (fun h => by have := HN.out; omega)).trans KB0.out)
  replace KB1 := aside ((sk.block i1 (Array.getElem?_eq_some_iff.1 KB1.out).1 (fun h => by have := HN.out; omega)).trans KB1.out)
  have kz := (heap_setCell_same _ i2 0 _ _ (.int .i64 1) KB2.out)
  simp only [List.setIfInBounds_toArray, List.set_cons_zero] at kz
  replace KB2 := aside kz
  replace RR := aside (RR.out.keep sk (fun h => by have := HN.out; omega))
  replace KK := aside (KK.out.setCell (p := ⟨i2, 0, none⟩) (fun h => by have := HN.out; simp only at h; omega) (.int .i64 1))
  clear sk kz
  generalize w1.setCell ⟨i2, 0, none⟩ (.int .i64 1) = X2 at KK RR KB0 KB1 KB2  ⊢
  have c0_0 : X2.cell? ⟨i0, 0, none⟩ = some (.pointer (some ⟨br, 0, none⟩)) := by rw [cell_of_row _ _ 0 _ _ _ KB0.out]; rfl
  go_wp2_with fail
  refine (C2.out _ RR.out).mono ?_
  rintro r w3 ⟨rfl, R1, k1⟩
  clear c0_0
  replace KB0 := aside ((k1.block i0 (Array.getElem?_eq_some_iff.1 KB0.out).1 (fun h => by have := HN.out; omega)).trans KB0.out)
  replace KB1 := aside ((k1.block i1 (Array.getElem?_eq_some_iff.1 KB1.out).1 (fun h => by have := HN.out; omega)).trans KB1.out)
  replace KB2 := aside ((k1.block i2 (Array.getElem?_eq_some_iff.1 KB2.out).1 (fun h => by have := HN.out; omega)).trans KB2.out)
  replace KK := aside (KK.out.trans k1)
  replace RR := aside R1
  clear k1 R1
  have c2_0 : w3.cell? ⟨i2, 0, none⟩ = some (.int .i64 1) := by rw [cell_of_row _ _ 0 _ _ _ KB2.out]; rfl
  have f2_0 := frozen_of_row _ _ 0 _ _ KB2.out
  have c2_1 : w3.cell? ⟨i2, 1, none⟩ = some (.string ⟨#[]⟩) := by rw [cell_of_row _ _ 1 _ _ _ KB2.out]; rfl
  have f2_1 := frozen_of_row _ _ 1 _ _ KB2.out
  have c2_2 : w3.cell? ⟨i2, 2, none⟩ = some (.string ⟨#[]⟩) := by rw [cell_of_row _ _ 2 _ _ _ KB2.out]; rfl
  have f2_2 := frozen_of_row _ _ 2 _ _ KB2.out
  have c2_3 : w3.cell? ⟨i2, 3, none⟩ = some (.bool false) := by rw [cell_of_row _ _ 3 _ _ _ KB2.out]; rfl
  have f2_3 := frozen_of_row _ _ 3 _ _ KB2.out
  have c2_4 : w3.cell? ⟨i2, 4, none⟩ = some (.int .i64 0) := by rw [cell_of_row _ _ 4 _ _ _ KB2.out]; rfl
  have f2_4 := frozen_of_row _ _ 4 _ _ KB2.out
  have c2_5 : w3.cell? ⟨i2, 5, none⟩ = some (.int .u64 0) := by rw [cell_of_row _ _ 5 _ _ _ KB2.out]; rfl
  have f2_5 := frozen_of_row _ _ 5 _ _ KB2.out
  have c2_6 : w3.cell? ⟨i2, 6, none⟩ = some (.int .u64 0) := by rw [cell_of_row _ _ 6 _ _ _ KB2.out]; rfl
  have f2_6 := frozen_of_row _ _ 6 _ _ KB2.out
  have c2_7 : w3.cell? ⟨i2, 7, none⟩ = some (.slice none 0 0) := by rw [cell_of_row _ _ 7 _ _ _ KB2.out]; rfl
  have f2_7 := frozen_of_row _ _ 7 _ _ KB2.out
  go_upto_region 4 with fail
  clear c2_0 f2_0 c2_1 f2_1 c2_2 f2_2 c2_3 f2_3 c2_4 f2_4 c2_5 f2_5 c2_6 f2_6 c2_7 f2_7
  have sk := ((((Keeps.refl (fun x => x = i2) w3).setCell (p := ⟨i2, 1, none⟩) (fun _ => rfl) (.string lo)).setCell (p := ⟨i2, 2, none⟩) (fun _ => rfl) (.string hi)).setCell (p := ⟨i2, 3, none⟩) (fun _ => rfl) (.bool op))
  replace KB0 := aside ((sk.block i0 (Array.getElem?_eq_some_iff.1 KB0.out).1 (fun h => by have := HN.out; omega)).trans KB0.out)
  replace KB1 := aside ((sk.block i1 (Array.getElem?_eq_some_iff.1 KB1.out).1 (fun h => by have := HN.out; omega)).trans KB1.out)
  have kz := (heap_setCell_same _ i2 3 _ _ (.bool op) (heap_setCell_same _ i2 2 _ _ (.string hi) (heap_setCell_same _ i2 1 _ _ (.string lo) KB2.out)))
  simp only [List.setIfInBounds_toArray, List.set_cons_zero, List.set_cons_succ] at kz
  replace KB2 := aside kz
  replace RR := aside (RR.out.keep sk (fun h => by have := HN.out; omega))
  replace KK := aside (((KK.out.setCell (p := ⟨i2, 1, none⟩) (fun h => by have := HN.out; simp only at h; omega) (.string lo)).setCell (p := ⟨i2, 2, none⟩) (fun h => by have := HN.out; simp only at h; omega) (.string hi)).setCell (p := ⟨i2, 3, none⟩) (fun h => by have := HN.out; simp only at h; omega) (.bool op))
  clear sk kz
  generalize ((w3.setCell ⟨i2, 1, none⟩ (.string lo)).setCell ⟨i2, 2, none⟩ (.string hi)).setCell ⟨i2, 3, none⟩ (.bool op) = X4 at KK RR KB0 KB1 KB2  ⊢
  have c2_0 : X4.cell? ⟨i2, 0, none⟩ = some (.int .i64 1) := by rw [cell_of_row _ _ 0 _ _ _ KB2.out]; rfl
  have c2_1 : X4.cell? ⟨i2, 1, none⟩ = some (.string lo) := by rw [cell_of_row _ _ 1 _ _ _ KB2.out]; rfl
  have c2_2 : X4.cell? ⟨i2, 2, none⟩ = some (.string hi) := by rw [cell_of_row _ _ 2 _ _ _ KB2.out]; rfl
  have c2_3 : X4.cell? ⟨i2, 3, none⟩ = some (.bool op) := by rw [cell_of_row _ _ 3 _ _ _ KB2.out]; rfl
  have c2_4 : X4.cell? ⟨i2, 4, none⟩ = some (.int .i64 0) := by rw [cell_of_row _ _ 4 _ _ _ KB2.out]; rfl
  have c2_5 : X4.cell? ⟨i2, 5, none⟩ = some (.int .u64 0) := by rw [cell_of_row _ _ 5 _ _ _ KB2.out]; rfl
  have c2_6 : X4.cell? ⟨i2, 6, none⟩ = some (.int .u64 0) := by rw [cell_of_row _ _ 6 _ _ _ KB2.out]; rfl
  have c2_7 : X4.cell? ⟨i2, 7, none⟩ = some (.slice none 0 0) := by rw [cell_of_row _ _ 7 _ _ _ KB2.out]; rfl
  have c0_0 : X4.cell? ⟨i0, 0, none⟩ = some (.pointer (some ⟨br, 0, none⟩)) := by rw [cell_of_row _ _ 0 _ _ _ KB0.out]; rfl
  go_wp2_with fail
  refine (C3.out _ RR.out).mono ?_
  rintro r w5 ⟨rfl, R1, k1⟩
  clear c2_0 c2_1 c2_2 c2_3 c2_4 c2_5 c2_6 c2_7 c0_0
  replace KB0 := aside ((k1.block i0 (Array.getElem?_eq_some_iff.1 KB0.out).1 (fun h => by have := HN.out; omega)).trans KB0.out)
  replace KB1 := aside ((k1.block i1 (Array.getElem?_eq_some_iff.1 KB1.out).1 (fun h => by have := HN.out; omega)).trans KB1.out)
  replace KB2 := aside ((k1.block i2 (Array.getElem?_eq_some_iff.1 KB2.out).1 (fun h => by have := HN.out; omega)).trans KB2.out)
  replace KK := aside (KK.out.trans k1)
  replace RR := aside R1
  clear k1 R1
  have c2_0 : w5.cell? ⟨i2, 0, none⟩ = some (.int .i64 1) := by rw [cell_of_row _ _ 0 _ _ _ KB2.out]; rfl
  have f2_0 := frozen_of_row _ _ 0 _ _ KB2.out
  have c2_1 : w5.cell? ⟨i2, 1, none⟩ = some (.string lo) := by rw [cell_of_row _ _ 1 _ _ _ KB2.out]; rfl
  have f2_1 := frozen_of_row _ _ 1 _ _ KB2.out
  have c2_2 : w5.cell? ⟨i2, 2, none⟩ = some (.string hi) := by rw [cell_of_row _ _ 2 _ _ _ KB2.out]; rfl
  have f2_2 := frozen_of_row _ _ 2 _ _ KB2.out
  have c2_3 : w5.cell? ⟨i2, 3, none⟩ = some (.bool op) := by rw [cell_of_row _ _ 3 _ _ _ KB2.out]; rfl
  have f2_3 := frozen_of_row _ _ 3 _ _ KB2.out
  have c2_4 : w5.cell? ⟨i2, 4, none⟩ = some (.int .i64 0) := by rw [cell_of_row _ _ 4 _ _ _ KB2.out]; rfl
  have f2_4 := frozen_of_row _ _ 4 _ _ KB2.out
  have c2_5 : w5.cell? ⟨i2, 5, none⟩ = some (.int .u64 0) := by rw [cell_of_row _ _ 5 _ _ _ KB2.out]; rfl
  have f2_5 := frozen_of_row _ _ 5 _ _ KB2.out
  have c2_6 : w5.cell? ⟨i2, 6, none⟩ = some (.int .u64 0) := by rw [cell_of_row _ _ 6 _ _ _ KB2.out]; rfl
  have f2_6 := frozen_of_row _ _ 6 _ _ KB2.out
  have c2_7 : w5.cell? ⟨i2, 7, none⟩ = some (.slice none 0 0) := by rw [cell_of_row _ _ 7 _ _ _ KB2.out]; rfl
  have f2_7 := frozen_of_row _ _ 7 _ _ KB2.out
  go_upto_region 11 with fail
  clear c2_0 f2_0 c2_1 f2_1 c2_2 f2_2 c2_3 f2_3 c2_4 f2_4 c2_5 f2_5 c2_6 f2_6 c2_7 f2_7
  have sk := ((((Keeps.refl (fun x => x = i2) w5).setCell (p := ⟨i2, 4, none⟩) (fun _ => rfl) (.int .i64 c)).setCell (p := ⟨i2, 5, none⟩) (fun _ => rfl) (.int .u64 (a : Int))).setCell (p := ⟨i2, 6, none⟩) (fun _ => rfl) (.int .u64 (b : Int)))
  replace KB0 := aside ((sk.block i0 (Array.getElem?_eq_some_iff.1 KB0.out).1 (fun h => by have := HN.out; omega)).trans KB0.out)
  replace KB1 := aside ((sk.block i1 (Array.getElem?_eq_some_iff.1 KB1.out).1 (fun h => by have := HN.out; omega)).trans KB1.out)
  have kz := (heap_setCell_same _ i2 6 _ _ (.int .u64 (b : Int)) (heap_setCell_same _ i2 5 _ _ (.int .u64 (a : Int)) (heap_setCell_same _ i2 4 _ _ (.int .i64 c) KB2.out)))
  simp only [List.setIfInBounds_toArray, List.set_cons_zero, List.set_cons_succ] at kz
  replace KB2 := aside kz
  replace RR := aside (RR.out.keep sk (fun h => by have := HN.out; omega))
  replace KK := aside (((KK.out.setCell (p := ⟨i2, 4, none⟩) (fun h => by have := HN.out; simp only at h; omega) (.int .i64 c)).setCell (p := ⟨i2, 5, none⟩) (fun h => by have := HN.out; simp only at h; omega) (.int .u64 (a : Int))).setCell (p := ⟨i2, 6, none⟩) (fun h => by have := HN.out; simp only at h; omega) (.int .u64 (b : Int)))
  clear sk kz
  generalize ((w5.setCell ⟨i2, 4, none⟩ (.int .i64 c)).setCell ⟨i2, 5, none⟩ (.int .u64 (a : Int))).setCell ⟨i2, 6, none⟩ (.int .u64 (b : Int)) = X6 at KK RR KB0 KB1 KB2  ⊢
  have c2_0 : X6.cell? ⟨i2, 0, none⟩ = some (.int .i64 1) := by rw [cell_of_row _ _ 0 _ _ _ KB2.out]; rfl
  have c2_1 : X6.cell? ⟨i2, 1, none⟩ = some (.string lo) := by rw [cell_of_row _ _ 1 _ _ _ KB2.out]; rfl
  have c2_2 : X6.cell? ⟨i2, 2, none⟩ = some (.string hi) := by rw [cell_of_row _ _ 2 _ _ _ KB2.out]; rfl
  have c2_3 : X6.cell? ⟨i2, 3, none⟩ = some (.bool op) := by rw [cell_of_row _ _ 3 _ _ _ KB2.out]; rfl
  have c2_4 : X6.cell? ⟨i2, 4, none⟩ = some (.int .i64 c) := by rw [cell_of_row _ _ 4 _ _ _ KB2.out]; rfl
  have c2_5 : X6.cell? ⟨i2, 5, none⟩ = some (.int .u64 (a : Int)) := by rw [cell_of_row _ _ 5 _ _ _ KB2.out]; rfl
  have c2_6 : X6.cell? ⟨i2, 6, none⟩ = some (.int .u64 (b : Int)) := by rw [cell_of_row _ _ 6 _ _ _ KB2.out]; rfl
  have c2_7 : X6.cell? ⟨i2, 7, none⟩ = some (.slice none 0 0) := by rw [cell_of_row _ _ 7 _ _ _ KB2.out]; rfl
  have c1_0 : X6.cell? ⟨i1, 0, none⟩ = some (.int .i64 0) := by rw [cell_of_row _ _ 0 _ _ _ KB1.out]; rfl
  have f1_0 := frozen_of_row _ _ 0 _ _ KB1.out
  have c1_1 : X6.cell? ⟨i1, 1, none⟩ = some (.string ⟨#[]⟩) := by rw [cell_of_row _ _ 1 _ _ _ KB1.out]; rfl
  have f1_1 := frozen_of_row _ _ 1 _ _ KB1.out
  have c1_2 : X6.cell? ⟨i1, 2, none⟩ = some (.string ⟨#[]⟩) := by rw [cell_of_row _ _ 2 _ _ _ KB1.out]; rfl
  have f1_2 := frozen_of_row _ _ 2 _ _ KB1.out
  have c1_3 : X6.cell? ⟨i1, 3, none⟩ = some (.bool false) := by rw [cell_of_row _ _ 3 _ _ _ KB1.out]; rfl
  have f1_3 := frozen_of_row _ _ 3 _ _ KB1.out
  have c1_4 : X6.cell? ⟨i1, 4, none⟩ = some (.int .i64 0) := by rw [cell_of_row _ _ 4 _ _ _ KB1.out]; rfl
  have f1_4 := frozen_of_row _ _ 4 _ _ KB1.out
  have c1_5 : X6.cell? ⟨i1, 5, none⟩ = some (.int .u64 0) := by rw [cell_of_row _ _ 5 _ _ _ KB1.out]; rfl
  have f1_5 := frozen_of_row _ _ 5 _ _ KB1.out
  have c1_6 : X6.cell? ⟨i1, 6, none⟩ = some (.int .u64 0) := by rw [cell_of_row _ _ 6 _ _ _ KB1.out]; rfl
  have f1_6 := frozen_of_row _ _ 6 _ _ KB1.out
  have c1_7 : X6.cell? ⟨i1, 7, none⟩ = some (.slice none 0 0) := by rw [cell_of_row _ _ 7 _ _ _ KB1.out]; rfl
  have f1_7 := frozen_of_row _ _ 7 _ _ KB1.out
  have SK := aside ((((((((((Keeps.refl (fun x => x = i1) X6).setCell (p := ⟨i1, 0, none⟩) (fun _ => rfl) (.int .i64 1)).setCell (p := ⟨i1, 1, none⟩) (fun _ => rfl) (.string lo)).setCell (p := ⟨i1, 2, none⟩) (fun _ => rfl) (.string hi)).setCell (p := ⟨i1, 3, none⟩) (fun _ => rfl) (.bool op)).setCell (p := ⟨i1, 4, none⟩) (fun _ => rfl) (.int .i64 c)).setCell (p := ⟨i1, 5, none⟩) (fun _ => rfl) (.int .u64 (a : Int))).setCell (p := ⟨i1, 6, none⟩) (fun _ => rfl) (.int .u64 (b : Int))).setCell (p := ⟨i1, 7, none⟩) (fun _ => rfl) (.slice none 0 0)))
  have KF := aside (((((((((KK.out.setCell (p := ⟨i1, 0, none⟩) (fun h => by have := HN.out; simp only at h; omega) (.int .i64 1)).setCell (p := ⟨i1, 1, none⟩) (fun h => by have := HN.out; simp only at h; omega) (.string lo)).setCell (p := ⟨i1, 2, none⟩) (fun h => by have := HN.out; simp only at h; omega) (.string hi)).setCell (p := ⟨i1, 3, none⟩) (fun h => by have := HN.out; simp only at h; omega) (.bool op)).setCell (p := ⟨i1, 4, none⟩) (fun h => by have := HN.out; simp only at h; omega) (.int .i64 c)).setCell (p := ⟨i1, 5, none⟩) (fun h => by have := HN.out; simp only at h; omega) (.int .u64 (a : Int))).setCell (p := ⟨i1, 6, none⟩) (fun h => by have := HN.out; simp only at h; omega) (.int .u64 (b : Int))).setCell (p := ⟨i1, 7, none⟩) (fun h => by have := HN.out; simp only at h; omega) (.slice none 0 0)))
  have kz := (heap_setCell_same _ i1 7 _ _ (.slice none 0 0) (heap_setCell_same _ i1 6 _ _ (.int .u64 (b : Int)) (heap_setCell_same _ i1 5 _ _ (.int .u64 (a : Int)) (heap_setCell_same _ i1 4 _ _ (.int .i64 c) (heap_setCell_same _ i1 3 _ _ (.bool op) (heap_setCell_same _ i1 2 _ _ (.string hi) (heap_setCell_same _ i1 1 _ _ (.string lo) (heap_setCell_same _ i1 0 _ _ (.int .i64 1) KB1.out))))))))
  simp only [List.setIfInBounds_toArray, List.set_cons_zero, List.set_cons_succ] at kz
  have KR := aside kz
  clear kz
  go_wp2
  exact bodyPost_ret (v := .agg #[.int .i64 1, .string lo, .string hi, .bool op, .int .i64 c, .int .u64 (a : Int), .int .u64 (b : Int), .slice none 0 0]) (by simp [results, Try.results58, go_sem, cell_of_row _ _ 0 _ _ _ KR.out, cell_of_row _ _ 1 _ _ _ KR.out, cell_of_row _ _ 2 _ _ _ KR.out, cell_of_row _ _ 3 _ _ _ KR.out, cell_of_row _ _ 4 _ _ _ KR.out, cell_of_row _ _ 5 _ _ _ KR.out, cell_of_row _ _ 6 _ _ _ KR.out, cell_of_row _ _ 7 _ _ _ KR.out]) rfl ⟨none, 0, 0, rfl, ⟨rfl, .inl ⟨rfl, rfl⟩⟩, RR.out.keep SK.out (fun h => by have := HN.out; omega), KF.out⟩
set_option maxRecDepth 100000 in
set_option maxHeartbeats 3200000 in
theorem rpart_2 {br : Nat} {s : ByteArray} {l : List UInt8} {w : World} {p p1 p2 p3 : Nat} {e e1 e2 e3 : Int} {lo hi : ByteArray} {op : Bool} {es : List En} (h : OneR br s l p e w) (h1 : numSt l p e 3 = (2, p1, e1)) (h2 : keysSt l p1 e1 = ((lo, hi, op), p2, e2)) (h3 : entriesSt l p2 e2 = (es, p3, e3)) :
    Calls Try.prog 58 #[.agg #[.pointer (some ⟨br, 0, none⟩)]] w fun r w' => ∃ a' n' c', r = .returned (.agg #[.int .i64 2, .string lo, .string hi, .bool op, .int .i64 0, .int .u64 0, .int .u64 0, .slice a' n' c']) ∧ w'.ownsRow w.heap.size 50 5 (.slice a' n' c') n' (entCells es) ∧ OneR br s l p3 e3 w' ∧ Keeps (fun x => x = br) w w' := by
  have C1 := aside (fun w (h : OneR br s l p e w) => one_num_at h1 h)
  have C2 := aside (fun w (h : OneR br s l p1 e1 w) => rkeys_at h h2)
  have C3 := aside (fun w (h : OneR br s l p2 e2 w) => rents_at h h3)
  clear h1 h2 h3
  have z0 := heap_alloc_new w (.cells #[.pointer (some ⟨br, 0, none⟩)] 72)
  have z1 := heap_alloc_new (w.alloc (.cells #[.pointer (some ⟨br, 0, none⟩)] 72)) (.cells #[.int .i64 0, .string ⟨#[]⟩, .string ⟨#[]⟩, .bool false, .int .i64 0, .int .u64 0, .int .u64 0, .slice none 0 0] 46)
  simp only [World.size_alloc] at z1
  replace z0 := blk_on z0 (bnew _ (.cells #[.int .i64 0, .string ⟨#[]⟩, .string ⟨#[]⟩, .bool false, .int .i64 0, .int .u64 0, .int .u64 0, .slice none 0 0] 46))
  have z2 := heap_alloc_new ((w.alloc (.cells #[.pointer (some ⟨br, 0, none⟩)] 72)).alloc (.cells #[.int .i64 0, .string ⟨#[]⟩, .string ⟨#[]⟩, .bool false, .int .i64 0, .int .u64 0, .int .u64 0, .slice none 0 0] 46)) (.cells #[.int .i64 0, .string ⟨#[]⟩, .string ⟨#[]⟩, .bool false, .int .i64 0, .int .u64 0, .int .u64 0, .slice none 0 0] 46)
  simp only [World.size_alloc] at z2
  replace z0 := blk_on z0 (bnew _ (.cells #[.int .i64 0, .string ⟨#[]⟩, .string ⟨#[]⟩, .bool false, .int .i64 0, .int .u64 0, .int .u64 0, .slice none 0 0] 46))
  replace z1 := blk_on z1 (bnew _ (.cells #[.int .i64 0, .string ⟨#[]⟩, .string ⟨#[]⟩, .bool false, .int .i64 0, .int .u64 0, .int .u64 0, .slice none 0 0] 46))
  have hk0 : Keeps (fun x => x = br) w (((w.alloc (.cells #[.pointer (some ⟨br, 0, none⟩)] 72)).alloc (.cells #[.int .i64 0, .string ⟨#[]⟩, .string ⟨#[]⟩, .bool false, .int .i64 0, .int .u64 0, .int .u64 0, .slice none 0 0] 46)).alloc (.cells #[.int .i64 0, .string ⟨#[]⟩, .string ⟨#[]⟩, .bool false, .int .i64 0, .int .u64 0, .int .u64 0, .slice none 0 0] 46)) := (((Keeps.refl (fun x => x = br) w).alloc (.cells #[.pointer (some ⟨br, 0, none⟩)] 72)).alloc (.cells #[.int .i64 0, .string ⟨#[]⟩, .string ⟨#[]⟩, .bool false, .int .i64 0, .int .u64 0, .int .u64 0, .slice none 0 0] 46)).alloc (.cells #[.int .i64 0, .string ⟨#[]⟩, .string ⟨#[]⟩, .bool false, .int .i64 0, .int .u64 0, .int .u64 0, .slice none 0 0] 46)
  have hr0 := h.keep ((((Keeps.refl (fun _ => False) w).alloc (.cells #[.pointer (some ⟨br, 0, none⟩)] 72)).alloc (.cells #[.int .i64 0, .string ⟨#[]⟩, .string ⟨#[]⟩, .bool false, .int .i64 0, .int .u64 0, .int .u64 0, .slice none 0 0] 46)).alloc (.cells #[.int .i64 0, .string ⟨#[]⟩, .string ⟨#[]⟩, .bool false, .int .i64 0, .int .u64 0, .int .u64 0, .slice none 0 0] 46)) (fun h => h)
  have HBR := aside h.lt
  clear h
  have KB0 := aside z0
  have KB1 := aside z1
  have KB2 := aside z2
  have KK := aside hk0
  have RR := aside hr0
  clear hk0 hr0 z0 z1 z2
  go_enter Try.func58, Try.ntmps58
  go_wp2_with fail
  obtain ⟨i0, hi0⟩ : ∃ i0, w.heap.size = i0 := ⟨_, rfl⟩
  obtain ⟨i1, hi1⟩ : ∃ i1, i0 + 1 = i1 := ⟨_, rfl⟩
  obtain ⟨i2, hi2⟩ : ∃ i2, i1 + 1 = i2 := ⟨_, rfl⟩
  have HN := aside (show w.heap.size ≤ i0 ∧ br ≠ i0 ∧ w.heap.size ≤ i1 ∧ br ≠ i1 ∧ w.heap.size ≤ i2 ∧ br ≠ i2 ∧ i0 ≠ i1 ∧ i0 ≠ i2 ∧ i1 ≠ i0 ∧ i1 ≠ i2 ∧ i2 ≠ i0 ∧ i2 ≠ i1 from by have := HBR.out; omega)
  rw [hi0, hi1, hi2] at ⊢
  rw [hi0] at KB0
  rw [hi0, hi1] at KB1
  rw [hi0, hi1, hi2] at KB2
  clear hi0 hi1 hi2
  generalize ((w.alloc (.cells #[.pointer (some ⟨br, 0, none⟩)] 72)).alloc (.cells #[.int .i64 0, .string ⟨#[]⟩, .string ⟨#[]⟩, .bool false, .int .i64 0, .int .u64 0, .int .u64 0, .slice none 0 0] 46)).alloc (.cells #[.int .i64 0, .string ⟨#[]⟩, .string ⟨#[]⟩, .bool false, .int .i64 0, .int .u64 0, .int .u64 0, .slice none 0 0] 46) = X0 at KK RR KB0 KB1 KB2 ⊢
  refine (C1.out _ RR.out).mono ?_
  rintro r w1 ⟨rfl, R1, k1⟩
  replace KB0 := aside ((k1.block i0 (Array.getElem?_eq_some_iff.1 KB0.out).1 (fun h => by have := HN.out; omega)).trans KB0.out)
  replace KB1 := aside ((k1.block i1 (Array.getElem?_eq_some_iff.1 KB1.out).1 (fun h => by have := HN.out; omega)).trans KB1.out)
  replace KB2 := aside ((k1.block i2 (Array.getElem?_eq_some_iff.1 KB2.out).1 (fun h => by have := HN.out; omega)).trans KB2.out)
  replace KK := aside (KK.out.trans k1)
  replace RR := aside R1
  clear k1 R1
  have c2_0 : w1.cell? ⟨i2, 0, none⟩ = some (.int .i64 0) := by rw [cell_of_row _ _ 0 _ _ _ KB2.out]; rfl
  have f2_0 := frozen_of_row _ _ 0 _ _ KB2.out
  have c2_1 : w1.cell? ⟨i2, 1, none⟩ = some (.string ⟨#[]⟩) := by rw [cell_of_row _ _ 1 _ _ _ KB2.out]; rfl
  have f2_1 := frozen_of_row _ _ 1 _ _ KB2.out
  have c2_2 : w1.cell? ⟨i2, 2, none⟩ = some (.string ⟨#[]⟩) := by rw [cell_of_row _ _ 2 _ _ _ KB2.out]; rfl
  have f2_2 := frozen_of_row _ _ 2 _ _ KB2.out
  have c2_3 : w1.cell? ⟨i2, 3, none⟩ = some (.bool false) := by rw [cell_of_row _ _ 3 _ _ _ KB2.out]; rfl
  have f2_3 := frozen_of_row _ _ 3 _ _ KB2.out
  have c2_4 : w1.cell? ⟨i2, 4, none⟩ = some (.int .i64 0) := by rw [cell_of_row _ _ 4 _ _ _ KB2.out]; rfl
  have f2_4 := frozen_of_row _ _ 4 _ _ KB2.out
  have c2_5 : w1.cell? ⟨i2, 5, none⟩ = some (.int .u64 0) := by rw [cell_of_row _ _ 5 _ _ _ KB2.out]; rfl
  have f2_5 := frozen_of_row _ _ 5 _ _ KB2.out
  have c2_6 : w1.cell? ⟨i2, 6, none⟩ = some (.int .u64 0) := by rw [cell_of_row _ _ 6 _ _ _ KB2.out]; rfl
  have f2_6 := frozen_of_row _ _ 6 _ _ KB2.out
  have c2_7 : w1.cell? ⟨i2, 7, none⟩ = some (.slice none 0 0) := by rw [cell_of_row _ _ 7 _ _ _ KB2.out]; rfl
  have f2_7 := frozen_of_row _ _ 7 _ _ KB2.out
  go_upto_region 3 with fail
  clear c2_0 f2_0 c2_1 f2_1 c2_2 f2_2 c2_3 f2_3 c2_4 f2_4 c2_5 f2_5 c2_6 f2_6 c2_7 f2_7
  have sk := ((Keeps.refl (fun x => x = i2) w1).setCell (p := ⟨i2, 0, none⟩) (fun _ => rfl) (.int .i64 2))
  replace KB0 := aside ((sk.block i0 (Array.getElem?_eq_some_iff.1 KB0.out).1 (fun h => by have := HN.out; omega)).trans KB0.out)
  replace KB1 := aside ((sk.block i1 (Array.getElem?_eq_some_iff.1 KB1.out).1 (fun h => by have := HN.out; omega)).trans KB1.out)
  have kz := (heap_setCell_same _ i2 0 _ _ (.int .i64 2) KB2.out)
  simp only [List.setIfInBounds_toArray, List.set_cons_zero] at kz
  replace KB2 := aside kz
  replace RR := aside (RR.out.keep sk (fun h => by have := HN.out; omega))
  replace KK := aside (KK.out.setCell (p := ⟨i2, 0, none⟩) (fun h => by have := HN.out; simp only at h; omega) (.int .i64 2))
  clear sk kz
  generalize w1.setCell ⟨i2, 0, none⟩ (.int .i64 2) = X2 at KK RR KB0 KB1 KB2  ⊢
  have c0_0 : X2.cell? ⟨i0, 0, none⟩ = some (.pointer (some ⟨br, 0, none⟩)) := by rw [cell_of_row _ _ 0 _ _ _ KB0.out]; rfl
  go_wp2_with fail
  refine (C2.out _ RR.out).mono ?_
  rintro r w3 ⟨rfl, R1, k1⟩
  clear c0_0
  replace KB0 := aside ((k1.block i0 (Array.getElem?_eq_some_iff.1 KB0.out).1 (fun h => by have := HN.out; omega)).trans KB0.out)
  replace KB1 := aside ((k1.block i1 (Array.getElem?_eq_some_iff.1 KB1.out).1 (fun h => by have := HN.out; omega)).trans KB1.out)
  replace KB2 := aside ((k1.block i2 (Array.getElem?_eq_some_iff.1 KB2.out).1 (fun h => by have := HN.out; omega)).trans KB2.out)
  replace KK := aside (KK.out.trans k1)
  replace RR := aside R1
  clear k1 R1
  have c2_0 : w3.cell? ⟨i2, 0, none⟩ = some (.int .i64 2) := by rw [cell_of_row _ _ 0 _ _ _ KB2.out]; rfl
  have f2_0 := frozen_of_row _ _ 0 _ _ KB2.out
  have c2_1 : w3.cell? ⟨i2, 1, none⟩ = some (.string ⟨#[]⟩) := by rw [cell_of_row _ _ 1 _ _ _ KB2.out]; rfl
  have f2_1 := frozen_of_row _ _ 1 _ _ KB2.out
  have c2_2 : w3.cell? ⟨i2, 2, none⟩ = some (.string ⟨#[]⟩) := by rw [cell_of_row _ _ 2 _ _ _ KB2.out]; rfl
  have f2_2 := frozen_of_row _ _ 2 _ _ KB2.out
  have c2_3 : w3.cell? ⟨i2, 3, none⟩ = some (.bool false) := by rw [cell_of_row _ _ 3 _ _ _ KB2.out]; rfl
  have f2_3 := frozen_of_row _ _ 3 _ _ KB2.out
  have c2_4 : w3.cell? ⟨i2, 4, none⟩ = some (.int .i64 0) := by rw [cell_of_row _ _ 4 _ _ _ KB2.out]; rfl
  have f2_4 := frozen_of_row _ _ 4 _ _ KB2.out
  have c2_5 : w3.cell? ⟨i2, 5, none⟩ = some (.int .u64 0) := by rw [cell_of_row _ _ 5 _ _ _ KB2.out]; rfl
  have f2_5 := frozen_of_row _ _ 5 _ _ KB2.out
  have c2_6 : w3.cell? ⟨i2, 6, none⟩ = some (.int .u64 0) := by rw [cell_of_row _ _ 6 _ _ _ KB2.out]; rfl
  have f2_6 := frozen_of_row _ _ 6 _ _ KB2.out
  have c2_7 : w3.cell? ⟨i2, 7, none⟩ = some (.slice none 0 0) := by rw [cell_of_row _ _ 7 _ _ _ KB2.out]; rfl
  have f2_7 := frozen_of_row _ _ 7 _ _ KB2.out
  go_upto_region 4 with fail
  clear c2_0 f2_0 c2_1 f2_1 c2_2 f2_2 c2_3 f2_3 c2_4 f2_4 c2_5 f2_5 c2_6 f2_6 c2_7 f2_7
  have sk := ((((Keeps.refl (fun x => x = i2) w3).setCell (p := ⟨i2, 1, none⟩) (fun _ => rfl) (.string lo)).setCell (p := ⟨i2, 2, none⟩) (fun _ => rfl) (.string hi)).setCell (p := ⟨i2, 3, none⟩) (fun _ => rfl) (.bool op))
  replace KB0 := aside ((sk.block i0 (Array.getElem?_eq_some_iff.1 KB0.out).1 (fun h => by have := HN.out; omega)).trans KB0.out)
  replace KB1 := aside ((sk.block i1 (Array.getElem?_eq_some_iff.1 KB1.out).1 (fun h => by have := HN.out; omega)).trans KB1.out)
  have kz := (heap_setCell_same _ i2 3 _ _ (.bool op) (heap_setCell_same _ i2 2 _ _ (.string hi) (heap_setCell_same _ i2 1 _ _ (.string lo) KB2.out)))
  simp only [List.setIfInBounds_toArray, List.set_cons_zero, List.set_cons_succ] at kz
  replace KB2 := aside kz
  replace RR := aside (RR.out.keep sk (fun h => by have := HN.out; omega))
  replace KK := aside (((KK.out.setCell (p := ⟨i2, 1, none⟩) (fun h => by have := HN.out; simp only at h; omega) (.string lo)).setCell (p := ⟨i2, 2, none⟩) (fun h => by have := HN.out; simp only at h; omega) (.string hi)).setCell (p := ⟨i2, 3, none⟩) (fun h => by have := HN.out; simp only at h; omega) (.bool op))
  clear sk kz
  generalize ((w3.setCell ⟨i2, 1, none⟩ (.string lo)).setCell ⟨i2, 2, none⟩ (.string hi)).setCell ⟨i2, 3, none⟩ (.bool op) = X4 at KK RR KB0 KB1 KB2  ⊢
  have c2_0 : X4.cell? ⟨i2, 0, none⟩ = some (.int .i64 2) := by rw [cell_of_row _ _ 0 _ _ _ KB2.out]; rfl
  have c2_1 : X4.cell? ⟨i2, 1, none⟩ = some (.string lo) := by rw [cell_of_row _ _ 1 _ _ _ KB2.out]; rfl
  have c2_2 : X4.cell? ⟨i2, 2, none⟩ = some (.string hi) := by rw [cell_of_row _ _ 2 _ _ _ KB2.out]; rfl
  have c2_3 : X4.cell? ⟨i2, 3, none⟩ = some (.bool op) := by rw [cell_of_row _ _ 3 _ _ _ KB2.out]; rfl
  have c2_4 : X4.cell? ⟨i2, 4, none⟩ = some (.int .i64 0) := by rw [cell_of_row _ _ 4 _ _ _ KB2.out]; rfl
  have c2_5 : X4.cell? ⟨i2, 5, none⟩ = some (.int .u64 0) := by rw [cell_of_row _ _ 5 _ _ _ KB2.out]; rfl
  have c2_6 : X4.cell? ⟨i2, 6, none⟩ = some (.int .u64 0) := by rw [cell_of_row _ _ 6 _ _ _ KB2.out]; rfl
  have c2_7 : X4.cell? ⟨i2, 7, none⟩ = some (.slice none 0 0) := by rw [cell_of_row _ _ 7 _ _ _ KB2.out]; rfl
  have c0_0 : X4.cell? ⟨i0, 0, none⟩ = some (.pointer (some ⟨br, 0, none⟩)) := by rw [cell_of_row _ _ 0 _ _ _ KB0.out]; rfl
  go_wp2_with fail
  have HS2 := aside (show w.heap.size ≤ X4.heap.size from KK.out.size)
  refine (C3.out _ RR.out).mono ?_
  rintro r w5 ⟨ea, el, ec, rfl, OW1, R1, k1⟩
  clear c2_0 c2_1 c2_2 c2_3 c2_4 c2_5 c2_6 c2_7 c0_0
  replace KB0 := aside ((k1.block i0 (Array.getElem?_eq_some_iff.1 KB0.out).1 (fun h => by have := HN.out; omega)).trans KB0.out)
  replace KB1 := aside ((k1.block i1 (Array.getElem?_eq_some_iff.1 KB1.out).1 (fun h => by have := HN.out; omega)).trans KB1.out)
  replace KB2 := aside ((k1.block i2 (Array.getElem?_eq_some_iff.1 KB2.out).1 (fun h => by have := HN.out; omega)).trans KB2.out)
  replace KK := aside (KK.out.trans k1)
  replace RR := aside R1
  clear k1 R1
  have OW := aside (own_low OW1 HS2.out)
  clear OW1
  have c2_0 : w5.cell? ⟨i2, 0, none⟩ = some (.int .i64 2) := by rw [cell_of_row _ _ 0 _ _ _ KB2.out]; rfl
  have f2_0 := frozen_of_row _ _ 0 _ _ KB2.out
  have c2_1 : w5.cell? ⟨i2, 1, none⟩ = some (.string lo) := by rw [cell_of_row _ _ 1 _ _ _ KB2.out]; rfl
  have f2_1 := frozen_of_row _ _ 1 _ _ KB2.out
  have c2_2 : w5.cell? ⟨i2, 2, none⟩ = some (.string hi) := by rw [cell_of_row _ _ 2 _ _ _ KB2.out]; rfl
  have f2_2 := frozen_of_row _ _ 2 _ _ KB2.out
  have c2_3 : w5.cell? ⟨i2, 3, none⟩ = some (.bool op) := by rw [cell_of_row _ _ 3 _ _ _ KB2.out]; rfl
  have f2_3 := frozen_of_row _ _ 3 _ _ KB2.out
  have c2_4 : w5.cell? ⟨i2, 4, none⟩ = some (.int .i64 0) := by rw [cell_of_row _ _ 4 _ _ _ KB2.out]; rfl
  have f2_4 := frozen_of_row _ _ 4 _ _ KB2.out
  have c2_5 : w5.cell? ⟨i2, 5, none⟩ = some (.int .u64 0) := by rw [cell_of_row _ _ 5 _ _ _ KB2.out]; rfl
  have f2_5 := frozen_of_row _ _ 5 _ _ KB2.out
  have c2_6 : w5.cell? ⟨i2, 6, none⟩ = some (.int .u64 0) := by rw [cell_of_row _ _ 6 _ _ _ KB2.out]; rfl
  have f2_6 := frozen_of_row _ _ 6 _ _ KB2.out
  have c2_7 : w5.cell? ⟨i2, 7, none⟩ = some (.slice none 0 0) := by rw [cell_of_row _ _ 7 _ _ _ KB2.out]; rfl
  have f2_7 := frozen_of_row _ _ 7 _ _ KB2.out
  go_upto_region 11 with fail
  clear c2_0 f2_0 c2_1 f2_1 c2_2 f2_2 c2_3 f2_3 c2_4 f2_4 c2_5 f2_5 c2_6 f2_6 c2_7 f2_7
  have sk := ((Keeps.refl (fun x => x = i2) w5).setCell (p := ⟨i2, 7, none⟩) (fun _ => rfl) (.slice ea el ec))
  replace KB0 := aside ((sk.block i0 (Array.getElem?_eq_some_iff.1 KB0.out).1 (fun h => by have := HN.out; omega)).trans KB0.out)
  replace KB1 := aside ((sk.block i1 (Array.getElem?_eq_some_iff.1 KB1.out).1 (fun h => by have := HN.out; omega)).trans KB1.out)
  replace OW := aside (ownsRow_keep OW.out sk (fun j hj x => own_nots OW.out KB2.out (by decide) (x ▸ hj)))
  have kz := (heap_setCell_same _ i2 7 _ _ (.slice ea el ec) KB2.out)
  simp only [List.setIfInBounds_toArray, List.set_cons_zero, List.set_cons_succ] at kz
  replace KB2 := aside kz
  replace RR := aside (RR.out.keep sk (fun h => by have := HN.out; omega))
  replace KK := aside (KK.out.setCell (p := ⟨i2, 7, none⟩) (fun h => by have := HN.out; simp only at h; omega) (.slice ea el ec))
  clear sk kz
  generalize w5.setCell ⟨i2, 7, none⟩ (.slice ea el ec) = X6 at KK RR KB0 KB1 KB2 OW ⊢
  have c2_0 : X6.cell? ⟨i2, 0, none⟩ = some (.int .i64 2) := by rw [cell_of_row _ _ 0 _ _ _ KB2.out]; rfl
  have c2_1 : X6.cell? ⟨i2, 1, none⟩ = some (.string lo) := by rw [cell_of_row _ _ 1 _ _ _ KB2.out]; rfl
  have c2_2 : X6.cell? ⟨i2, 2, none⟩ = some (.string hi) := by rw [cell_of_row _ _ 2 _ _ _ KB2.out]; rfl
  have c2_3 : X6.cell? ⟨i2, 3, none⟩ = some (.bool op) := by rw [cell_of_row _ _ 3 _ _ _ KB2.out]; rfl
  have c2_4 : X6.cell? ⟨i2, 4, none⟩ = some (.int .i64 0) := by rw [cell_of_row _ _ 4 _ _ _ KB2.out]; rfl
  have c2_5 : X6.cell? ⟨i2, 5, none⟩ = some (.int .u64 0) := by rw [cell_of_row _ _ 5 _ _ _ KB2.out]; rfl
  have c2_6 : X6.cell? ⟨i2, 6, none⟩ = some (.int .u64 0) := by rw [cell_of_row _ _ 6 _ _ _ KB2.out]; rfl
  have c2_7 : X6.cell? ⟨i2, 7, none⟩ = some (.slice ea el ec) := by rw [cell_of_row _ _ 7 _ _ _ KB2.out]; rfl
  have c1_0 : X6.cell? ⟨i1, 0, none⟩ = some (.int .i64 0) := by rw [cell_of_row _ _ 0 _ _ _ KB1.out]; rfl
  have f1_0 := frozen_of_row _ _ 0 _ _ KB1.out
  have c1_1 : X6.cell? ⟨i1, 1, none⟩ = some (.string ⟨#[]⟩) := by rw [cell_of_row _ _ 1 _ _ _ KB1.out]; rfl
  have f1_1 := frozen_of_row _ _ 1 _ _ KB1.out
  have c1_2 : X6.cell? ⟨i1, 2, none⟩ = some (.string ⟨#[]⟩) := by rw [cell_of_row _ _ 2 _ _ _ KB1.out]; rfl
  have f1_2 := frozen_of_row _ _ 2 _ _ KB1.out
  have c1_3 : X6.cell? ⟨i1, 3, none⟩ = some (.bool false) := by rw [cell_of_row _ _ 3 _ _ _ KB1.out]; rfl
  have f1_3 := frozen_of_row _ _ 3 _ _ KB1.out
  have c1_4 : X6.cell? ⟨i1, 4, none⟩ = some (.int .i64 0) := by rw [cell_of_row _ _ 4 _ _ _ KB1.out]; rfl
  have f1_4 := frozen_of_row _ _ 4 _ _ KB1.out
  have c1_5 : X6.cell? ⟨i1, 5, none⟩ = some (.int .u64 0) := by rw [cell_of_row _ _ 5 _ _ _ KB1.out]; rfl
  have f1_5 := frozen_of_row _ _ 5 _ _ KB1.out
  have c1_6 : X6.cell? ⟨i1, 6, none⟩ = some (.int .u64 0) := by rw [cell_of_row _ _ 6 _ _ _ KB1.out]; rfl
  have f1_6 := frozen_of_row _ _ 6 _ _ KB1.out
  have c1_7 : X6.cell? ⟨i1, 7, none⟩ = some (.slice none 0 0) := by rw [cell_of_row _ _ 7 _ _ _ KB1.out]; rfl
  have f1_7 := frozen_of_row _ _ 7 _ _ KB1.out
  have SK := aside ((((((((((Keeps.refl (fun x => x = i1) X6).setCell (p := ⟨i1, 0, none⟩) (fun _ => rfl) (.int .i64 2)).setCell (p := ⟨i1, 1, none⟩) (fun _ => rfl) (.string lo)).setCell (p := ⟨i1, 2, none⟩) (fun _ => rfl) (.string hi)).setCell (p := ⟨i1, 3, none⟩) (fun _ => rfl) (.bool op)).setCell (p := ⟨i1, 4, none⟩) (fun _ => rfl) (.int .i64 0)).setCell (p := ⟨i1, 5, none⟩) (fun _ => rfl) (.int .u64 0)).setCell (p := ⟨i1, 6, none⟩) (fun _ => rfl) (.int .u64 0)).setCell (p := ⟨i1, 7, none⟩) (fun _ => rfl) (.slice ea el ec)))
  have KF := aside (((((((((KK.out.setCell (p := ⟨i1, 0, none⟩) (fun h => by have := HN.out; simp only at h; omega) (.int .i64 2)).setCell (p := ⟨i1, 1, none⟩) (fun h => by have := HN.out; simp only at h; omega) (.string lo)).setCell (p := ⟨i1, 2, none⟩) (fun h => by have := HN.out; simp only at h; omega) (.string hi)).setCell (p := ⟨i1, 3, none⟩) (fun h => by have := HN.out; simp only at h; omega) (.bool op)).setCell (p := ⟨i1, 4, none⟩) (fun h => by have := HN.out; simp only at h; omega) (.int .i64 0)).setCell (p := ⟨i1, 5, none⟩) (fun h => by have := HN.out; simp only at h; omega) (.int .u64 0)).setCell (p := ⟨i1, 6, none⟩) (fun h => by have := HN.out; simp only at h; omega) (.int .u64 0)).setCell (p := ⟨i1, 7, none⟩) (fun h => by have := HN.out; simp only at h; omega) (.slice ea el ec)))
  have kz := (heap_setCell_same _ i1 7 _ _ (.slice ea el ec) (heap_setCell_same _ i1 6 _ _ (.int .u64 0) (heap_setCell_same _ i1 5 _ _ (.int .u64 0) (heap_setCell_same _ i1 4 _ _ (.int .i64 0) (heap_setCell_same _ i1 3 _ _ (.bool op) (heap_setCell_same _ i1 2 _ _ (.string hi) (heap_setCell_same _ i1 1 _ _ (.string lo) (heap_setCell_same _ i1 0 _ _ (.int .i64 2) KB1.out))))))))
  simp only [List.setIfInBounds_toArray, List.set_cons_zero, List.set_cons_succ] at kz
  have KR := aside kz
  clear kz
  go_wp2
  exact bodyPost_ret (v := .agg #[.int .i64 2, .string lo, .string hi, .bool op, .int .i64 0, .int .u64 0, .int .u64 0, .slice ea el ec]) (by simp [results, Try.results58, go_sem, cell_of_row _ _ 0 _ _ _ KR.out, cell_of_row _ _ 1 _ _ _ KR.out, cell_of_row _ _ 2 _ _ _ KR.out, cell_of_row _ _ 3 _ _ _ KR.out, cell_of_row _ _ 4 _ _ _ KR.out, cell_of_row _ _ 5 _ _ _ KR.out, cell_of_row _ _ 6 _ _ _ KR.out, cell_of_row _ _ 7 _ _ _ KR.out]) rfl ⟨ea, el, ec, rfl, ownsRow_keep OW.out SK.out (fun j hj x => own_nots OW.out KB1.out (by decide) (x ▸ hj)), RR.out.keep SK.out (fun h => by have := HN.out; omega), KF.out⟩
set_option maxRecDepth 100000 in
set_option maxHeartbeats 3200000 in
theorem rpart_3 {br : Nat} {s : ByteArray} {l : List UInt8} {w : World} {p p1 p2 p3 : Nat} {e e1 e2 e3 : Int} {lo hi : ByteArray} {op : Bool} {es : List En} (h : OneR br s l p e w) (h1 : numSt l p e 3 = (3, p1, e1)) (h2 : keysSt l p1 e1 = ((lo, hi, op), p2, e2)) (h3 : entriesSt l p2 e2 = (es, p3, e3)) :
    Calls Try.prog 58 #[.agg #[.pointer (some ⟨br, 0, none⟩)]] w fun r w' => ∃ a' n' c', r = .returned (.agg #[.int .i64 3, .string lo, .string hi, .bool op, .int .i64 0, .int .u64 0, .int .u64 0, .slice a' n' c']) ∧ w'.ownsRow w.heap.size 50 5 (.slice a' n' c') n' (entCells es) ∧ OneR br s l p3 e3 w' ∧ Keeps (fun x => x = br) w w' := by
  have C1 := aside (fun w (h : OneR br s l p e w) => one_num_at h1 h)
  have C2 := aside (fun w (h : OneR br s l p1 e1 w) => rkeys_at h h2)
  have C3 := aside (fun w (h : OneR br s l p2 e2 w) => rents_at h h3)
  clear h1 h2 h3
  have z0 := heap_alloc_new w (.cells #[.pointer (some ⟨br, 0, none⟩)] 72)
  have z1 := heap_alloc_new (w.alloc (.cells #[.pointer (some ⟨br, 0, none⟩)] 72)) (.cells #[.int .i64 0, .string ⟨#[]⟩, .string ⟨#[]⟩, .bool false, .int .i64 0, .int .u64 0, .int .u64 0, .slice none 0 0] 46)
  simp only [World.size_alloc] at z1
  replace z0 := blk_on z0 (bnew _ (.cells #[.int .i64 0, .string ⟨#[]⟩, .string ⟨#[]⟩, .bool false, .int .i64 0, .int .u64 0, .int .u64 0, .slice none 0 0] 46))
  have z2 := heap_alloc_new ((w.alloc (.cells #[.pointer (some ⟨br, 0, none⟩)] 72)).alloc (.cells #[.int .i64 0, .string ⟨#[]⟩, .string ⟨#[]⟩, .bool false, .int .i64 0, .int .u64 0, .int .u64 0, .slice none 0 0] 46)) (.cells #[.int .i64 0, .string ⟨#[]⟩, .string ⟨#[]⟩, .bool false, .int .i64 0, .int .u64 0, .int .u64 0, .slice none 0 0] 46)
  simp only [World.size_alloc] at z2
  replace z0 := blk_on z0 (bnew _ (.cells #[.int .i64 0, .string ⟨#[]⟩, .string ⟨#[]⟩, .bool false, .int .i64 0, .int .u64 0, .int .u64 0, .slice none 0 0] 46))
  replace z1 := blk_on z1 (bnew _ (.cells #[.int .i64 0, .string ⟨#[]⟩, .string ⟨#[]⟩, .bool false, .int .i64 0, .int .u64 0, .int .u64 0, .slice none 0 0] 46))
  have hk0 : Keeps (fun x => x = br) w (((w.alloc (.cells #[.pointer (some ⟨br, 0, none⟩)] 72)).alloc (.cells #[.int .i64 0, .string ⟨#[]⟩, .string ⟨#[]⟩, .bool false, .int .i64 0, .int .u64 0, .int .u64 0, .slice none 0 0] 46)).alloc (.cells #[.int .i64 0, .string ⟨#[]⟩, .string ⟨#[]⟩, .bool false, .int .i64 0, .int .u64 0, .int .u64 0, .slice none 0 0] 46)) := (((Keeps.refl (fun x => x = br) w).alloc (.cells #[.pointer (some ⟨br, 0, none⟩)] 72)).alloc (.cells #[.int .i64 0, .string ⟨#[]⟩, .string ⟨#[]⟩, .bool false, .int .i64 0, .int .u64 0, .int .u64 0, .slice none 0 0] 46)).alloc (.cells #[.int .i64 0, .string ⟨#[]⟩, .string ⟨#[]⟩, .bool false, .int .i64 0, .int .u64 0, .int .u64 0, .slice none 0 0] 46)
  have hr0 := h.keep ((((Keeps.refl (fun _ => False) w).alloc (.cells #[.pointer (some ⟨br, 0, none⟩)] 72)).alloc (.cells #[.int .i64 0, .string ⟨#[]⟩, .string ⟨#[]⟩, .bool false, .int .i64 0, .int .u64 0, .int .u64 0, .slice none 0 0] 46)).alloc (.cells #[.int .i64 0, .string ⟨#[]⟩, .string ⟨#[]⟩, .bool false, .int .i64 0, .int .u64 0, .int .u64 0, .slice none 0 0] 46)) (fun h => h)
  have HBR := aside h.lt
  clear h
  have KB0 := aside z0
  have KB1 := aside z1
  have KB2 := aside z2
  have KK := aside hk0
  have RR := aside hr0
  clear hk0 hr0 z0 z1 z2
  go_enter Try.func58, Try.ntmps58
  go_wp2_with fail
  obtain ⟨i0, hi0⟩ : ∃ i0, w.heap.size = i0 := ⟨_, rfl⟩
  obtain ⟨i1, hi1⟩ : ∃ i1, i0 + 1 = i1 := ⟨_, rfl⟩
  obtain ⟨i2, hi2⟩ : ∃ i2, i1 + 1 = i2 := ⟨_, rfl⟩
  have HN := aside (show w.heap.size ≤ i0 ∧ br ≠ i0 ∧ w.heap.size ≤ i1 ∧ br ≠ i1 ∧ w.heap.size ≤ i2 ∧ br ≠ i2 ∧ i0 ≠ i1 ∧ i0 ≠ i2 ∧ i1 ≠ i0 ∧ i1 ≠ i2 ∧ i2 ≠ i0 ∧ i2 ≠ i1 from by have := HBR.out; omega)
  rw [hi0, hi1, hi2] at ⊢
  rw [hi0] at KB0
  rw [hi0, hi1] at KB1
  rw [hi0, hi1, hi2] at KB2
  clear hi0 hi1 hi2
  generalize ((w.alloc (.cells #[.pointer (some ⟨br, 0, none⟩)] 72)).alloc (.cells #[.int .i64 0, .string ⟨#[]⟩, .string ⟨#[]⟩, .bool false, .int .i64 0, .int .u64 0, .int .u64 0, .slice none 0 0] 46)).alloc (.cells #[.int .i64 0, .string ⟨#[]⟩, .string ⟨#[]⟩, .bool false, .int .i64 0, .int .u64 0, .int .u64 0, .slice none 0 0] 46) = X0 at KK RR KB0 KB1 KB2 ⊢
  refine (C1.out _ RR.out).mono ?_
  rintro r w1 ⟨rfl, R1, k1⟩
  replace KB0 := aside ((k1.block i0 (Array.getElem?_eq_some_iff.1 KB0.out).1 (fun h => by have := HN.out; omega)).trans KB0.out)
  replace KB1 := aside ((k1.block i1 (Array.getElem?_eq_some_iff.1 KB1.out).1 (fun h => by have := HN.out; omega)).trans KB1.out)
  replace KB2 := aside ((k1.block i2 (Array.getElem?_eq_some_iff.1 KB2.out).1 (fun h => by have := HN.out; omega)).trans KB2.out)
  replace KK := aside (KK.out.trans k1)
  replace RR := aside R1
  clear k1 R1
  have c2_0 : w1.cell? ⟨i2, 0, none⟩ = some (.int .i64 0) := by rw [cell_of_row _ _ 0 _ _ _ KB2.out]; rfl
  have f2_0 := frozen_of_row _ _ 0 _ _ KB2.out
  have c2_1 : w1.cell? ⟨i2, 1, none⟩ = some (.string ⟨#[]⟩) := by rw [cell_of_row _ _ 1 _ _ _ KB2.out]; rfl
  have f2_1 := frozen_of_row _ _ 1 _ _ KB2.out
  have c2_2 : w1.cell? ⟨i2, 2, none⟩ = some (.string ⟨#[]⟩) := by rw [cell_of_row _ _ 2 _ _ _ KB2.out]; rfl
  have f2_2 := frozen_of_row _ _ 2 _ _ KB2.out
  have c2_3 : w1.cell? ⟨i2, 3, none⟩ = some (.bool false) := by rw [cell_of_row _ _ 3 _ _ _ KB2.out]; rfl
  have f2_3 := frozen_of_row _ _ 3 _ _ KB2.out
  have c2_4 : w1.cell? ⟨i2, 4, none⟩ = some (.int .i64 0) := by rw [cell_of_row _ _ 4 _ _ _ KB2.out]; rfl
  have f2_4 := frozen_of_row _ _ 4 _ _ KB2.out
  have c2_5 : w1.cell? ⟨i2, 5, none⟩ = some (.int .u64 0) := by rw [cell_of_row _ _ 5 _ _ _ KB2.out]; rfl
  have f2_5 := frozen_of_row _ _ 5 _ _ KB2.out
  have c2_6 : w1.cell? ⟨i2, 6, none⟩ = some (.int .u64 0) := by rw [cell_of_row _ _ 6 _ _ _ KB2.out]; rfl
  have f2_6 := frozen_of_row _ _ 6 _ _ KB2.out
  have c2_7 : w1.cell? ⟨i2, 7, none⟩ = some (.slice none 0 0) := by rw [cell_of_row _ _ 7 _ _ _ KB2.out]; rfl
  have f2_7 := frozen_of_row _ _ 7 _ _ KB2.out
  go_upto_region 3 with fail
  clear c2_0 f2_0 c2_1 f2_1 c2_2 f2_2 c2_3 f2_3 c2_4 f2_4 c2_5 f2_5 c2_6 f2_6 c2_7 f2_7
  have sk := ((Keeps.refl (fun x => x = i2) w1).setCell (p := ⟨i2, 0, none⟩) (fun _ => rfl) (.int .i64 3))
  replace KB0 := aside ((sk.block i0 (Array.getElem?_eq_some_iff.1 KB0.out).1 (fun h => by have := HN.out; omega)).trans KB0.out)
  replace KB1 := aside ((sk.block i1 (Array.getElem?_eq_some_iff.1 KB1.out).1 (fun h => by have := HN.out; omega)).trans KB1.out)
  have kz := (heap_setCell_same _ i2 0 _ _ (.int .i64 3) KB2.out)
  simp only [List.setIfInBounds_toArray, List.set_cons_zero] at kz
  replace KB2 := aside kz
  replace RR := aside (RR.out.keep sk (fun h => by have := HN.out; omega))
  replace KK := aside (KK.out.setCell (p := ⟨i2, 0, none⟩) (fun h => by have := HN.out; simp only at h; omega) (.int .i64 3))
  clear sk kz
  generalize w1.setCell ⟨i2, 0, none⟩ (.int .i64 3) = X2 at KK RR KB0 KB1 KB2  ⊢
  have c0_0 : X2.cell? ⟨i0, 0, none⟩ = some (.pointer (some ⟨br, 0, none⟩)) := by rw [cell_of_row _ _ 0 _ _ _ KB0.out]; rfl
  go_wp2_with fail
  refine (C2.out _ RR.out).mono ?_
  rintro r w3 ⟨rfl, R1, k1⟩
  clear c0_0
  replace KB0 := aside ((k1.block i0 (Array.getElem?_eq_some_iff.1 KB0.out).1 (fun h => by have := HN.out; omega)).trans KB0.out)
  replace KB1 := aside ((k1.block i1 (Array.getElem?_eq_some_iff.1 KB1.out).1 (fun h => by have := HN.out; omega)).trans KB1.out)
  replace KB2 := aside ((k1.block i2 (Array.getElem?_eq_some_iff.1 KB2.out).1 (fun h => by have := HN.out; omega)).trans KB2.out)
  replace KK := aside (KK.out.trans k1)
  replace RR := aside R1
  clear k1 R1
  have c2_0 : w3.cell? ⟨i2, 0, none⟩ = some (.int .i64 3) := by rw [cell_of_row _ _ 0 _ _ _ KB2.out]; rfl
  have f2_0 := frozen_of_row _ _ 0 _ _ KB2.out
  have c2_1 : w3.cell? ⟨i2, 1, none⟩ = some (.string ⟨#[]⟩) := by rw [cell_of_row _ _ 1 _ _ _ KB2.out]; rfl
  have f2_1 := frozen_of_row _ _ 1 _ _ KB2.out
  have c2_2 : w3.cell? ⟨i2, 2, none⟩ = some (.string ⟨#[]⟩) := by rw [cell_of_row _ _ 2 _ _ _ KB2.out]; rfl
  have f2_2 := frozen_of_row _ _ 2 _ _ KB2.out
  have c2_3 : w3.cell? ⟨i2, 3, none⟩ = some (.bool false) := by rw [cell_of_row _ _ 3 _ _ _ KB2.out]; rfl
  have f2_3 := frozen_of_row _ _ 3 _ _ KB2.out
  have c2_4 : w3.cell? ⟨i2, 4, none⟩ = some (.int .i64 0) := by rw [cell_of_row _ _ 4 _ _ _ KB2.out]; rfl
  have f2_4 := frozen_of_row _ _ 4 _ _ KB2.out
  have c2_5 : w3.cell? ⟨i2, 5, none⟩ = some (.int .u64 0) := by rw [cell_of_row _ _ 5 _ _ _ KB2.out]; rfl
  have f2_5 := frozen_of_row _ _ 5 _ _ KB2.out
  have c2_6 : w3.cell? ⟨i2, 6, none⟩ = some (.int .u64 0) := by rw [cell_of_row _ _ 6 _ _ _ KB2.out]; rfl
  have f2_6 := frozen_of_row _ _ 6 _ _ KB2.out
  have c2_7 : w3.cell? ⟨i2, 7, none⟩ = some (.slice none 0 0) := by rw [cell_of_row _ _ 7 _ _ _ KB2.out]; rfl
  have f2_7 := frozen_of_row _ _ 7 _ _ KB2.out
  go_upto_region 4 with fail
  clear c2_0 f2_0 c2_1 f2_1 c2_2 f2_2 c2_3 f2_3 c2_4 f2_4 c2_5 f2_5 c2_6 f2_6 c2_7 f2_7
  have sk := ((((Keeps.refl (fun x => x = i2) w3).setCell (p := ⟨i2, 1, none⟩) (fun _ => rfl) (.string lo)).setCell (p := ⟨i2, 2, none⟩) (fun _ => rfl) (.string hi)).setCell (p := ⟨i2, 3, none⟩) (fun _ => rfl) (.bool op))
  replace KB0 := aside ((sk.block i0 (Array.getElem?_eq_some_iff.1 KB0.out).1 (fun h => by have := HN.out; omega)).trans KB0.out)
  replace KB1 := aside ((sk.block i1 (Array.getElem?_eq_some_iff.1 KB1.out).1 (fun h => by have := HN.out; omega)).trans KB1.out)
  have kz := (heap_setCell_same _ i2 3 _ _ (.bool op) (heap_setCell_same _ i2 2 _ _ (.string hi) (heap_setCell_same _ i2 1 _ _ (.string lo) KB2.out)))
  simp only [List.setIfInBounds_toArray, List.set_cons_zero, List.set_cons_succ] at kz
  replace KB2 := aside kz
  replace RR := aside (RR.out.keep sk (fun h => by have := HN.out; omega))
  replace KK := aside (((KK.out.setCell (p := ⟨i2, 1, none⟩) (fun h => by have := HN.out; simp only at h; omega) (.string lo)).setCell (p := ⟨i2, 2, none⟩) (fun h => by have := HN.out; simp only at h; omega) (.string hi)).setCell (p := ⟨i2, 3, none⟩) (fun h => by have := HN.out; simp only at h; omega) (.bool op))
  clear sk kz
  generalize ((w3.setCell ⟨i2, 1, none⟩ (.string lo)).setCell ⟨i2, 2, none⟩ (.string hi)).setCell ⟨i2, 3, none⟩ (.bool op) = X4 at KK RR KB0 KB1 KB2  ⊢
  have c2_0 : X4.cell? ⟨i2, 0, none⟩ = some (.int .i64 3) := by rw [cell_of_row _ _ 0 _ _ _ KB2.out]; rfl
  have c2_1 : X4.cell? ⟨i2, 1, none⟩ = some (.string lo) := by rw [cell_of_row _ _ 1 _ _ _ KB2.out]; rfl
  have c2_2 : X4.cell? ⟨i2, 2, none⟩ = some (.string hi) := by rw [cell_of_row _ _ 2 _ _ _ KB2.out]; rfl
  have c2_3 : X4.cell? ⟨i2, 3, none⟩ = some (.bool op) := by rw [cell_of_row _ _ 3 _ _ _ KB2.out]; rfl
  have c2_4 : X4.cell? ⟨i2, 4, none⟩ = some (.int .i64 0) := by rw [cell_of_row _ _ 4 _ _ _ KB2.out]; rfl
  have c2_5 : X4.cell? ⟨i2, 5, none⟩ = some (.int .u64 0) := by rw [cell_of_row _ _ 5 _ _ _ KB2.out]; rfl
  have c2_6 : X4.cell? ⟨i2, 6, none⟩ = some (.int .u64 0) := by rw [cell_of_row _ _ 6 _ _ _ KB2.out]; rfl
  have c2_7 : X4.cell? ⟨i2, 7, none⟩ = some (.slice none 0 0) := by rw [cell_of_row _ _ 7 _ _ _ KB2.out]; rfl
  have c0_0 : X4.cell? ⟨i0, 0, none⟩ = some (.pointer (some ⟨br, 0, none⟩)) := by rw [cell_of_row _ _ 0 _ _ _ KB0.out]; rfl
  go_wp2_with fail
  have HS2 := aside (show w.heap.size ≤ X4.heap.size from KK.out.size)
  refine (C3.out _ RR.out).mono ?_
  rintro r w5 ⟨ea, el, ec, rfl, OW1, R1, k1⟩
  clear c2_0 c2_1 c2_2 c2_3 c2_4 c2_5 c2_6 c2_7 c0_0
  replace KB0 := aside ((k1.block i0 (Array.getElem?_eq_some_iff.1 KB0.out).1 (fun h => by have := HN.out; omega)).trans KB0.out)
  replace KB1 := aside ((k1.block i1 (Array.getElem?_eq_some_iff.1 KB1.out).1 (fun h => by have := HN.out; omega)).trans KB1.out)
  replace KB2 := aside ((k1.block i2 (Array.getElem?_eq_some_iff.1 KB2.out).1 (fun h => by have := HN.out; omega)).trans KB2.out)
  replace KK := aside (KK.out.trans k1)
  replace RR := aside R1
  clear k1 R1
  have OW := aside (own_low OW1 HS2.out)
  clear OW1
  have c2_0 : w5.cell? ⟨i2, 0, none⟩ = some (.int .i64 3) := by rw [cell_of_row _ _ 0 _ _ _ KB2.out]; rfl
  have f2_0 := frozen_of_row _ _ 0 _ _ KB2.out
  have c2_1 : w5.cell? ⟨i2, 1, none⟩ = some (.string lo) := by rw [cell_of_row _ _ 1 _ _ _ KB2.out]; rfl
  have f2_1 := frozen_of_row _ _ 1 _ _ KB2.out
  have c2_2 : w5.cell? ⟨i2, 2, none⟩ = some (.string hi) := by rw [cell_of_row _ _ 2 _ _ _ KB2.out]; rfl
  have f2_2 := frozen_of_row _ _ 2 _ _ KB2.out
  have c2_3 : w5.cell? ⟨i2, 3, none⟩ = some (.bool op) := by rw [cell_of_row _ _ 3 _ _ _ KB2.out]; rfl
  have f2_3 := frozen_of_row _ _ 3 _ _ KB2.out
  have c2_4 : w5.cell? ⟨i2, 4, none⟩ = some (.int .i64 0) := by rw [cell_of_row _ _ 4 _ _ _ KB2.out]; rfl
  have f2_4 := frozen_of_row _ _ 4 _ _ KB2.out
  have c2_5 : w5.cell? ⟨i2, 5, none⟩ = some (.int .u64 0) := by rw [cell_of_row _ _ 5 _ _ _ KB2.out]; rfl
  have f2_5 := frozen_of_row _ _ 5 _ _ KB2.out
  have c2_6 : w5.cell? ⟨i2, 6, none⟩ = some (.int .u64 0) := by rw [cell_of_row _ _ 6 _ _ _ KB2.out]; rfl
  have f2_6 := frozen_of_row _ _ 6 _ _ KB2.out
  have c2_7 : w5.cell? ⟨i2, 7, none⟩ = some (.slice none 0 0) := by rw [cell_of_row _ _ 7 _ _ _ KB2.out]; rfl
  have f2_7 := frozen_of_row _ _ 7 _ _ KB2.out
  go_upto_region 11 with fail
  clear c2_0 f2_0 c2_1 f2_1 c2_2 f2_2 c2_3 f2_3 c2_4 f2_4 c2_5 f2_5 c2_6 f2_6 c2_7 f2_7
  have sk := ((Keeps.refl (fun x => x = i2) w5).setCell (p := ⟨i2, 7, none⟩) (fun _ => rfl) (.slice ea el ec))
  replace KB0 := aside ((sk.block i0 (Array.getElem?_eq_some_iff.1 KB0.out).1 (fun h => by have := HN.out; omega)).trans KB0.out)
  replace KB1 := aside ((sk.block i1 (Array.getElem?_eq_some_iff.1 KB1.out).1 (fun h => by have := HN.out; omega)).trans KB1.out)
  replace OW := aside (ownsRow_keep OW.out sk (fun j hj x => own_nots OW.out KB2.out (by decide) (x ▸ hj)))
  have kz := (heap_setCell_same _ i2 7 _ _ (.slice ea el ec) KB2.out)
  simp only [List.setIfInBounds_toArray, List.set_cons_zero, List.set_cons_succ] at kz
  replace KB2 := aside kz
  replace RR := aside (RR.out.keep sk (fun h => by have := HN.out; omega))
  replace KK := aside (KK.out.setCell (p := ⟨i2, 7, none⟩) (fun h => by have := HN.out; simp only at h; omega) (.slice ea el ec))
  clear sk kz
  generalize w5.setCell ⟨i2, 7, none⟩ (.slice ea el ec) = X6 at KK RR KB0 KB1 KB2 OW ⊢
  have c2_0 : X6.cell? ⟨i2, 0, none⟩ = some (.int .i64 3) := by rw [cell_of_row _ _ 0 _ _ _ KB2.out]; rfl
  have c2_1 : X6.cell? ⟨i2, 1, none⟩ = some (.string lo) := by rw [cell_of_row _ _ 1 _ _ _ KB2.out]; rfl
  have c2_2 : X6.cell? ⟨i2, 2, none⟩ = some (.string hi) := by rw [cell_of_row _ _ 2 _ _ _ KB2.out]; rfl
  have c2_3 : X6.cell? ⟨i2, 3, none⟩ = some (.bool op) := by rw [cell_of_row _ _ 3 _ _ _ KB2.out]; rfl
  have c2_4 : X6.cell? ⟨i2, 4, none⟩ = some (.int .i64 0) := by rw [cell_of_row _ _ 4 _ _ _ KB2.out]; rfl
  have c2_5 : X6.cell? ⟨i2, 5, none⟩ = some (.int .u64 0) := by rw [cell_of_row _ _ 5 _ _ _ KB2.out]; rfl
  have c2_6 : X6.cell? ⟨i2, 6, none⟩ = some (.int .u64 0) := by rw [cell_of_row _ _ 6 _ _ _ KB2.out]; rfl
  have c2_7 : X6.cell? ⟨i2, 7, none⟩ = some (.slice ea el ec) := by rw [cell_of_row _ _ 7 _ _ _ KB2.out]; rfl
  have c1_0 : X6.cell? ⟨i1, 0, none⟩ = some (.int .i64 0) := by rw [cell_of_row _ _ 0 _ _ _ KB1.out]; rfl
  have f1_0 := frozen_of_row _ _ 0 _ _ KB1.out
  have c1_1 : X6.cell? ⟨i1, 1, none⟩ = some (.string ⟨#[]⟩) := by rw [cell_of_row _ _ 1 _ _ _ KB1.out]; rfl
  have f1_1 := frozen_of_row _ _ 1 _ _ KB1.out
  have c1_2 : X6.cell? ⟨i1, 2, none⟩ = some (.string ⟨#[]⟩) := by rw [cell_of_row _ _ 2 _ _ _ KB1.out]; rfl
  have f1_2 := frozen_of_row _ _ 2 _ _ KB1.out
  have c1_3 : X6.cell? ⟨i1, 3, none⟩ = some (.bool false) := by rw [cell_of_row _ _ 3 _ _ _ KB1.out]; rfl
  have f1_3 := frozen_of_row _ _ 3 _ _ KB1.out
  have c1_4 : X6.cell? ⟨i1, 4, none⟩ = some (.int .i64 0) := by rw [cell_of_row _ _ 4 _ _ _ KB1.out]; rfl
  have f1_4 := frozen_of_row _ _ 4 _ _ KB1.out
  have c1_5 : X6.cell? ⟨i1, 5, none⟩ = some (.int .u64 0) := by rw [cell_of_row _ _ 5 _ _ _ KB1.out]; rfl
  have f1_5 := frozen_of_row _ _ 5 _ _ KB1.out
  have c1_6 : X6.cell? ⟨i1, 6, none⟩ = some (.int .u64 0) := by rw [cell_of_row _ _ 6 _ _ _ KB1.out]; rfl
  have f1_6 := frozen_of_row _ _ 6 _ _ KB1.out
  have c1_7 : X6.cell? ⟨i1, 7, none⟩ = some (.slice none 0 0) := by rw [cell_of_row _ _ 7 _ _ _ KB1.out]; rfl
  have f1_7 := frozen_of_row _ _ 7 _ _ KB1.out
  have SK := aside ((((((((((Keeps.refl (fun x => x = i1) X6).setCell (p := ⟨i1, 0, none⟩) (fun _ => rfl) (.int .i64 3)).setCell (p := ⟨i1, 1, none⟩) (fun _ => rfl) (.string lo)).setCell (p := ⟨i1, 2, none⟩) (fun _ => rfl) (.string hi)).setCell (p := ⟨i1, 3, none⟩) (fun _ => rfl) (.bool op)).setCell (p := ⟨i1, 4, none⟩) (fun _ => rfl) (.int .i64 0)).setCell (p := ⟨i1, 5, none⟩) (fun _ => rfl) (.int .u64 0)).setCell (p := ⟨i1, 6, none⟩) (fun _ => rfl) (.int .u64 0)).setCell (p := ⟨i1, 7, none⟩) (fun _ => rfl) (.slice ea el ec)))
  have KF := aside (((((((((KK.out.setCell (p := ⟨i1, 0, none⟩) (fun h => by have := HN.out; simp only at h; omega) (.int .i64 3)).setCell (p := ⟨i1, 1, none⟩) (fun h => by have := HN.out; simp only at h; omega) (.string lo)).setCell (p := ⟨i1, 2, none⟩) (fun h => by have := HN.out; simp only at h; omega) (.string hi)).setCell (p := ⟨i1, 3, none⟩) (fun h => by have := HN.out; simp only at h; omega) (.bool op)).setCell (p := ⟨i1, 4, none⟩) (fun h => by have := HN.out; simp only at h; omega) (.int .i64 0)).setCell (p := ⟨i1, 5, none⟩) (fun h => by have := HN.out; simp only at h; omega) (.int .u64 0)).setCell (p := ⟨i1, 6, none⟩) (fun h => by have := HN.out; simp only at h; omega) (.int .u64 0)).setCell (p := ⟨i1, 7, none⟩) (fun h => by have := HN.out; simp only at h; omega) (.slice ea el ec)))
  have kz := (heap_setCell_same _ i1 7 _ _ (.slice ea el ec) (heap_setCell_same _ i1 6 _ _ (.int .u64 0) (heap_setCell_same _ i1 5 _ _ (.int .u64 0) (heap_setCell_same _ i1 4 _ _ (.int .i64 0) (heap_setCell_same _ i1 3 _ _ (.bool op) (heap_setCell_same _ i1 2 _ _ (.string hi) (heap_setCell_same _ i1 1 _ _ (.string lo) (heap_setCell_same _ i1 0 _ _ (.int .i64 3) KB1.out))))))))
  simp only [List.setIfInBounds_toArray, List.set_cons_zero, List.set_cons_succ] at kz
  have KR := aside kz
  clear kz
  go_wp2
  exact bodyPost_ret (v := .agg #[.int .i64 3, .string lo, .string hi, .bool op, .int .i64 0, .int .u64 0, .int .u64 0, .slice ea el ec]) (by simp [results, Try.results58, go_sem, cell_of_row _ _ 0 _ _ _ KR.out, cell_of_row _ _ 1 _ _ _ KR.out, cell_of_row _ _ 2 _ _ _ KR.out, cell_of_row _ _ 3 _ _ _ KR.out, cell_of_row _ _ 4 _ _ _ KR.out, cell_of_row _ _ 5 _ _ _ KR.out, cell_of_row _ _ 6 _ _ _ KR.out, cell_of_row _ _ 7 _ _ _ KR.out]) rfl ⟨ea, el, ec, rfl, ownsRow_keep OW.out SK.out (fun j hj x => own_nots OW.out KB1.out (by decide) (x ▸ hj)), RR.out.keep SK.out (fun h => by have := HN.out; omega), KF.out⟩
theorem rpart_at {br : Nat} {s : ByteArray} {l : List UInt8} {w : World} {p p' : Nat} {e e' : Int} {v : PV} (h : OneR br s l p e w) (hp : partSt l p e = (v, p', e')) :
    Calls Try.prog 58 #[.agg #[.pointer (some ⟨br, 0, none⟩)]] w fun r w' => ∃ a' n' c', r = .returned (.agg #[.int .i64 v.kind, .string v.lo, .string v.hi, .bool v.op, .int .i64 v.cnt, .int .u64 (v.s0 : Int), .int .u64 (v.s1 : Int), .slice a' n' c']) ∧ w'.ownsRow w.heap.size 50 5 (.slice a' n' c') n' (entCells v.es) ∧ OneR br s l p' e' w' ∧ Keeps (fun x => x = br) w w' := by
  rcases h1 : numSt l p e 3 with ⟨k, p1, e1⟩
  rcases h2 : keysSt l p1 e1 with ⟨⟨lo, hi, op⟩, p2, e2⟩
  obtain ⟨k0, k3⟩ := numSt_most (by omega) h.le h1
  by_cases hk1 : k = 1
  · subst hk1
    rcases h3 : tallySt l p2 e2 with ⟨⟨c, a, b⟩, p3, e3⟩
    rw [partSt_print h1 h2 h3] at hp
    simp only [Prod.mk.injEq] at hp
    obtain ⟨rfl, rfl, rfl⟩ := hp
    exact rpart_1 h h1 h2 h3
  · by_cases hk : k = 2 ∨ k = 3
    · rcases h3 : entriesSt l p2 e2 with ⟨es, p3, e3⟩
      rw [partSt_items h1 h2 hk h3] at hp
      simp only [Prod.mk.injEq] at hp
      obtain ⟨rfl, rfl, rfl⟩ := hp
      rcases hk with rfl | rfl
      · exact rpart_2 h h1 h2 h3
      · exact rpart_3 h h1 h2 h3
    · obtain rfl : k = 0 := by omega
      rw [partSt_none h1 h2 hk1 hk] at hp
      simp only [Prod.mk.injEq] at hp
      obtain ⟨rfl, rfl, rfl⟩ := hp
      exact rpart_0 h h1 h2
end Go.Proofs.Ytbnppmkdhnpdfaa
namespace Go.Proofs.Ytbnppmkdhnpdfaa
open Go.RowKit
theorem cmp_three (a n b m : Int) : Vs.cmp a n b m = 1 ∧ (b < a ∨ (a = b ∧ m < n)) ∨ Vs.cmp a n b m = 0 ∧ a = b ∧ n = m ∨ Vs.cmp a n b m = -1 ∧ (a < b ∨ (a = b ∧ n < m)) := by
  unfold Vs.cmp Vs.c2
  by_cases h1 : b < a
  · rw [if_pos h1]; omega
  · by_cases h2 : a < b
    · rw [if_neg h1, if_pos h2]; omega
    · by_cases h3 : m < n
      · rw [if_neg h1, if_neg h2, if_pos h3]; omega
      · by_cases h4 : n < m
        · rw [if_neg h1, if_neg h2, if_neg h3, if_pos h4]; omega
        · rw [if_neg h1, if_neg h2, if_neg h3, if_neg h4]; omega
end Go.Proofs.Ytbnppmkdhnpdfaa
namespace Go.Proofs.Ytbnppmkdhnpdfaa
open Go.RowKit
set_option linter.unusedVariables false
/-- Two names. -/
def Nm.cmp (a l n b m k : Int) : Int := if b < a then 1 else if a < b then -1 else Vs.cmp l n m k
/-- Whether a name may be. -/
def Nm.chk (a l n : Int) : Int := if a < 0 ∨ 8 ≤ a then 110 else if l < 1 ∨ 1048576 < l ∨ n < 1 ∨ 1048576 < n then 111 else 0
theorem Nm.lt {a b : Int} (h : a < b) (l n m k : Int) : Nm.cmp a l n b m k = -1 := by unfold Nm.cmp; rw [if_neg (by omega), if_pos h]
theorem Nm.gt {a b : Int} (h : b < a) (l n m k : Int) : Nm.cmp a l n b m k = 1 := by unfold Nm.cmp; rw [if_pos h]
theorem Nm.eq (a l n m k : Int) : Nm.cmp a l n a m k = Vs.cmp l n m k := by unfold Nm.cmp; rw [if_neg (by omega), if_neg (by omega)]
theorem Nm.three (a l n b m k : Int) : Nm.cmp a l n b m k = 1 ∧ (b < a ∨ (a = b ∧ (m < l ∨ (l = m ∧ k < n)))) ∨ Nm.cmp a l n b m k = 0 ∧ a = b ∧ l = m ∧ n = k ∨ Nm.cmp a l n b m k = -1 ∧ (a < b ∨ (a = b ∧ (l < m ∨ (l = m ∧ n < k)))) := by
  rcases Int.lt_trichotomy a b with h | h | h
  · exact .inr (.inr ⟨Nm.lt h _ _ _ _, .inl h⟩)
  · subst h
    rw [Nm.eq]
    rcases cmp_three l n m k with h | h | h
    · exact .inl ⟨h.1, .inr ⟨rfl, h.2⟩⟩
    · exact .inr (.inl ⟨h.1, rfl, h.2.1, h.2.2⟩)
    · exact .inr (.inr ⟨h.1, .inr ⟨rfl, h.2⟩⟩)
  · exact .inl ⟨Nm.gt h _ _ _ _, .inl h⟩
set_option maxHeartbeats 400000 in
theorem fnode_any (n : Int) (w : World) : Calls Try.prog 67 #[.int .i64 n] w fun e w' => e = .returned (.bool (nodeB n)) ∧ w' = w := by
  by_cases h1 : n < 0
  · have h0 : ¬ 0 ≤ n := by omega
    go_enter Try.func67, Try.ntmps67
    go_wp2
    go_ret
    exact ⟨ret_bool (node_no1 (by omega)).symm, rfl⟩
  · have h0 : 0 ≤ n := by omega
    by_cases h2 : 8 ≤ n
    · have h3 : ¬ n < 8 := by omega
      go_enter Try.func67, Try.ntmps67
      go_wp2
      go_ret
      exact ⟨ret_bool (node_no2 (by omega)).symm, rfl⟩
    · have h3 : n < 8 := by omega
      go_enter Try.func67, Try.ntmps67
      go_wp2
      go_ret
      exact ⟨ret_bool (node_yes (by omega) (by omega)).symm, rfl⟩
theorem fnode_at {n : Int} {q : Bool} (h : nodeB n = q) (w : World) : Calls Try.prog 67 #[.int .i64 n] w fun e w' => e = .returned (.bool q) ∧ w' = w := by
  subst h; exact fnode_any n w
set_option maxHeartbeats 1600000 in
theorem nchk_any (a l n : Int) (w : World) : Calls Try.prog 47 #[.agg #[.int .i64 a, .int .i64 l, .int .i64 n]] w fun e w' => e = .returned (.int .i64 (Nm.chk a l n)) ∧ Below w.heap.size w w' := by
  by_cases h1 : a < 0
  · skip
    go_enter Try.func47, Try.ntmps47
    go_wp2_with fail
    refine (fnode_at (node_no1 (by omega)) _).mono ?_
    rintro e w1 ⟨rfl, rfl⟩
    go_wp2
    go_ret
    exact ⟨ret_i64 (by unfold Nm.chk; rw [if_pos (by omega)]), bnew w _⟩
  · by_cases h2 : 8 ≤ a
    · skip
      go_enter Try.func47, Try.ntmps47
      go_wp2_with fail
      refine (fnode_at (node_no2 (by omega)) _).mono ?_
      rintro e w1 ⟨rfl, rfl⟩
      go_wp2
      go_ret
      exact ⟨ret_i64 (by unfold Nm.chk; rw [if_pos (by omega)]), bnew w _⟩
    · by_cases h3 : l < 1
      · skip
        go_enter Try.func47, Try.ntmps47
        go_wp2_with fail
        refine (fnode_at (node_yes (by omega) (by omega)) _).mono ?_
        rintro e w1 ⟨rfl, rfl⟩
        go_wp2
        go_ret
        exact ⟨ret_i64 (by unfold Nm.chk; rw [if_neg (by omega), if_pos (by omega)]), bnew w _⟩
      · by_cases h4 : 1048576 < l
        · skip
          go_enter Try.func47, Try.ntmps47
          go_wp2_with fail
          refine (fnode_at (node_yes (by omega) (by omega)) _).mono ?_
          rintro e w1 ⟨rfl, rfl⟩
          go_wp2
          go_ret
          exact ⟨ret_i64 (by unfold Nm.chk; rw [if_neg (by omega), if_pos (by omega)]), bnew w _⟩
        · by_cases h5 : n < 1
          · skip
            go_enter Try.func47, Try.ntmps47
            go_wp2_with fail
            refine (fnode_at (node_yes (by omega) (by omega)) _).mono ?_
            rintro e w1 ⟨rfl, rfl⟩
            go_wp2
            go_ret
            exact ⟨ret_i64 (by unfold Nm.chk; rw [if_neg (by omega), if_pos (by omega)]), bnew w _⟩
          · by_cases h6 : 1048576 < n
            · skip
              go_enter Try.func47, Try.ntmps47
              go_wp2_with fail
              refine (fnode_at (node_yes (by omega) (by omega)) _).mono ?_
              rintro e w1 ⟨rfl, rfl⟩
              go_wp2
              go_ret
              exact ⟨ret_i64 (by unfold Nm.chk; rw [if_neg (by omega), if_pos (by omega)]), bnew w _⟩
            · skip
              go_enter Try.func47, Try.ntmps47
              go_wp2_with fail
              refine (fnode_at (node_yes (by omega) (by omega)) _).mono ?_
              rintro e w1 ⟨rfl, rfl⟩
              go_wp2
              go_ret
              exact ⟨ret_i64 (by unfold Nm.chk; rw [if_neg (by omega), if_neg (by omega)]), bnew w _⟩
theorem nchk_at {a l n q : Int} (h : Nm.chk a l n = q) (w : World) : Calls Try.prog 47 #[.agg #[.int .i64 a, .int .i64 l, .int .i64 n]] w fun e w' => e = .returned (.int .i64 q) ∧ Below w.heap.size w w' := by
  subst h; exact nchk_any a l n w
end Go.Proofs.Ytbnppmkdhnpdfaa
namespace Go.Proofs.Ytbnppmkdhnpdfaa
open Go.RowKit
/-- A range: its bounds, and whether it is open. -/
structure Rg where
  lo : ByteArray
  hi : ByteArray
  op : Bool
namespace Rg
/-- The number that Check gives. -/
def chk (r : Rg) : Int :=
  if 16 < (r.lo.size : Int) ∨ 16 < (r.hi.size : Int) then 20
  else if (r.op && !r.hi.toList.isEmpty) || (!r.op && (!Op.bytesLess r.lo.toList r.hi.toList && !(r.lo.toList == r.hi.toList))) then 21 else 0
/-- May it be? -/
def may (r : Rg) : Bool := chk r == 0
/-- Is it empty, or may it not be? -/
def emp (r : Rg) : Bool := !r.may || (!r.op && (r.lo.toList == r.hi.toList))
/-- Does it hold a key? -/
def has (r : Rg) (k : ByteArray) : Bool := r.may && decide ((k.size : Int) ≤ 16) && !Op.bytesLess k.toList r.lo.toList && (r.op || Op.bytesLess k.toList r.hi.toList)
end Rg
end Go.Proofs.Ytbnppmkdhnpdfaa
namespace Go.Proofs.Ytbnppmkdhnpdfaa
open Go.RowKit
theorem chk_shut {lo hi : ByteArray} (h1 : (lo.size : Int) ≤ 16) (h2 : (hi.size : Int) ≤ 16) :
    Rg.chk ⟨lo, hi, false⟩ = bif (!Op.bytesLess lo.toList hi.toList && !(lo.toList == hi.toList)) then 21 else 0 := by
  unfold Rg.chk; rw [if_neg (not_or.2 ⟨Int.not_lt.2 h1, Int.not_lt.2 h2⟩)]
  cases Op.bytesLess lo.toList hi.toList <;> cases (lo.toList == hi.toList) <;> rfl
theorem chk_open {lo hi : ByteArray} (h1 : (lo.size : Int) ≤ 16) (h2 : (hi.size : Int) ≤ 16) :
    Rg.chk ⟨lo, hi, true⟩ = bif hi.toList.isEmpty then 0 else 21 := by
  unfold Rg.chk; rw [if_neg (not_or.2 ⟨Int.not_lt.2 h1, Int.not_lt.2 h2⟩)]
  cases hi.toList.isEmpty <;> rfl
set_option maxHeartbeats 1600000 in
theorem check_any (lo hi : ByteArray) (op : Bool) (w : World) :
    Calls Try.prog 87 #[.agg #[.string lo, .string hi, .bool op]] w fun e w' => e = .returned (.int .i64 (Rg.chk ⟨lo, hi, op⟩)) ∧ Below w.heap.size w w' := by
  by_cases h1 : (16 : Int) < lo.size
  · go_enter Try.func87, Try.ntmps87
    go_wp2
    go_ret
    exact ⟨ret_i64 (by simp [Rg.chk, h1]), (Below.refl _ w).alloc (Nat.le_refl _) _⟩
  · by_cases h2 : (16 : Int) < hi.size
    · go_enter Try.func87, Try.ntmps87
      go_wp2
      go_ret
      exact ⟨ret_i64 (by simp [Rg.chk, h2]), (Below.refl _ w).alloc (Nat.le_refl _) _⟩
    · cases op
      · cases h4 : Op.bytesLess lo.toList hi.toList <;> cases h5 : (lo.toList == hi.toList)
        all_goals
          go_enter Try.func87, Try.ntmps87
          go_wp2
          go_ret
          exact ⟨ret_i64 (by rw [chk_shut h1 h2, h4, h5]; rfl), (Below.refl _ w).alloc (Nat.le_refl _) _⟩
      · cases h3 : hi.toList.isEmpty
        all_goals
          go_enter Try.func87, Try.ntmps87
          go_wp2
          go_ret
          exact ⟨ret_i64 (by rw [chk_open h1 h2, h3]; rfl), (Below.refl _ w).alloc (Nat.le_refl _) _⟩
set_option maxHeartbeats 1600000 in
theorem mayBe_any (lo hi : ByteArray) (op : Bool) (w : World) :
    Calls Try.prog 97 #[.agg #[.string lo, .string hi, .bool op]] w fun e w' => e = .returned (.bool (Rg.may ⟨lo, hi, op⟩)) ∧ Below w.heap.size w w' := by
  go_enter Try.func97, Try.ntmps97
  go_wp2_with (go_at_call 87; refine (check_any _ _ _ _).mono ?_; rintro e w1 ⟨rfl, b1⟩)
  go_ret
  exact ⟨ret_bool rfl, bthen (bnew w _) b1⟩
end Go.Proofs.Ytbnppmkdhnpdfaa
namespace Go.Proofs.Ytbnppmkdhnpdfaa
open Go.RowKit
/-- What lies in a box that was laid last stays there. -/
theorem box3 {w w1 : World} {a b c : Value} {t : TypeId} (h : Below (w.alloc (.cells #[a, b, c] t)).heap.size (w.alloc (.cells #[a, b, c] t)) w1) :
    w1.cell? ⟨w.heap.size, 0, none⟩ = some a ∧ w1.cell? ⟨w.heap.size, 1, none⟩ = some b ∧ w1.cell? ⟨w.heap.size, 2, none⟩ = some c := by
  have e : ∀ j, (w.alloc (.cells #[a, b, c] t)).cell? ⟨w.heap.size, j, none⟩ = #[a, b, c][j]? := fun j => World.cell?_alloc_mark w #[a, b, c] t (0, 0) j
  refine ⟨?_, ?_, ?_⟩
  · rw [h.cell (p := ⟨w.heap.size, 0, none⟩) (by simp), e]; rfl
  · rw [h.cell (p := ⟨w.heap.size, 1, none⟩) (by simp), e]; rfl
  · rw [h.cell (p := ⟨w.heap.size, 2, none⟩) (by simp), e]; rfl
theorem mayBe_at {lo hi : ByteArray} {op m : Bool} (h : Rg.may ⟨lo, hi, op⟩ = m) (w : World) :
    Calls Try.prog 97 #[.agg #[.string lo, .string hi, .bool op]] w fun e w' => e = .returned (.bool m) ∧ Below w.heap.size w w' := by
  subst h; exact mayBe_any lo hi op w
theorem check_at {lo hi : ByteArray} {op : Bool} {c : Int} (h : Rg.chk ⟨lo, hi, op⟩ = c) (w : World) :
    Calls Try.prog 87 #[.agg #[.string lo, .string hi, .bool op]] w fun e w' => e = .returned (.int .i64 c) ∧ Below w.heap.size w w' := by
  subst h; exact check_any lo hi op w
set_option maxHeartbeats 1600000 in
theorem empty_any (lo hi : ByteArray) (op : Bool) (w : World) :
    Calls Try.prog 88 #[.agg #[.string lo, .string hi, .bool op]] w fun e w' => e = .returned (.bool (Rg.emp ⟨lo, hi, op⟩)) ∧ Below w.heap.size w w' := by
  cases hm : Rg.may ⟨lo, hi, op⟩
  · rw [show Rg.emp ⟨lo, hi, op⟩ = true from by simp [Rg.emp, hm]]
    have C := aside (fun w => mayBe_at hm w)
    clear hm
    go_enter Try.func88, Try.ntmps88
    go_wp2_with (go_at_call 97; refine (C.out _).mono ?_; rintro e w1 ⟨rfl, b1⟩; obtain ⟨q0, q1, q2⟩ := box3 b1)
    go_ret
    exact ⟨rfl, bthen (bnew w _) b1⟩
  · have C := aside (fun w => mayBe_at hm w)
    rw [show Rg.emp ⟨lo, hi, op⟩ = (!op && (lo.toList == hi.toList)) from by simp [Rg.emp, hm]]
    clear hm
    cases op
    · cases h5 : (lo.toList == hi.toList)
      all_goals
        go_enter Try.func88, Try.ntmps88
        go_wp2_with (go_at_call 97; refine (C.out _).mono ?_; rintro e w1 ⟨rfl, b1⟩; obtain ⟨q0, q1, q2⟩ := box3 b1)
        go_ret
        exact ⟨rfl, bthen (bnew w _) b1⟩
    · go_enter Try.func88, Try.ntmps88
      go_wp2_with (go_at_call 97; refine (C.out _).mono ?_; rintro e w1 ⟨rfl, b1⟩; obtain ⟨q0, q1, q2⟩ := box3 b1)
      go_ret
      exact ⟨rfl, bthen (bnew w _) b1⟩
set_option maxHeartbeats 1600000 in
theorem holds_any (lo hi : ByteArray) (op : Bool) (k : ByteArray) (w : World) :
    Calls Try.prog 98 #[.agg #[.string lo, .string hi, .bool op], .string k] w fun e w' => e = .returned (.bool (Rg.has ⟨lo, hi, op⟩ k)) ∧ Below w.heap.size w w' := by
  cases hm : Rg.may ⟨lo, hi, op⟩
  · rw [show Rg.has ⟨lo, hi, op⟩ k = false from by simp [Rg.has, hm]]
    have C := aside (fun w => mayBe_at hm w)
    clear hm
    go_enter Try.func98, Try.ntmps98
    go_wp2_with (go_at_call 97; refine (C.out _).mono ?_; rintro e w1 ⟨rfl, b1⟩; obtain ⟨q0, q1, q2⟩ := box3 b1)
    go_ret
    exact ⟨rfl, bthen (bnew w _) b1⟩
  · have C := aside (fun w => mayBe_at hm w)
    rw [show Rg.has ⟨lo, hi, op⟩ k = (decide ((k.size : Int) ≤ 16) && !Op.bytesLess k.toList lo.toList && (op || Op.bytesLess k.toList hi.toList)) from by simp [Rg.has, hm]]
    clear hm
    by_cases h1 : (k.size : Int) ≤ 16
    · rw [decide_eq_true h1]
      cases h2 : Op.bytesLess k.toList lo.toList
      · cases op
        · cases h5 : Op.bytesLess k.toList hi.toList
          all_goals
            go_enter Try.func98, Try.ntmps98
            go_wp2_with (go_at_call 97; refine (C.out _).mono ?_; rintro e w1 ⟨rfl, b1⟩; obtain ⟨q0, q1, q2⟩ := box3 b1)
            go_ret
            exact ⟨rfl, bthen (bnew w _) b1⟩
        · go_enter Try.func98, Try.ntmps98
          go_wp2_with (go_at_call 97; refine (C.out _).mono ?_; rintro e w1 ⟨rfl, b1⟩; obtain ⟨q0, q1, q2⟩ := box3 b1)
          go_ret
          exact ⟨rfl, bthen (bnew w _) b1⟩
      · go_enter Try.func98, Try.ntmps98
        go_wp2_with (go_at_call 97; refine (C.out _).mono ?_; rintro e w1 ⟨rfl, b1⟩; obtain ⟨q0, q1, q2⟩ := box3 b1)
        go_ret
        exact ⟨rfl, bthen (bnew w _) b1⟩
    · rw [decide_eq_false h1]
      go_enter Try.func98, Try.ntmps98
      go_wp2_with (go_at_call 97; refine (C.out _).mono ?_; rintro e w1 ⟨rfl, b1⟩; obtain ⟨q0, q1, q2⟩ := box3 b1)
      go_ret
      exact ⟨rfl, bthen (bnew w _) b1⟩
end Go.Proofs.Ytbnppmkdhnpdfaa
namespace Go.Proofs.Ytbnppmkdhnpdfaa
open Go.RowKit
set_option linter.unusedVariables false
/-- A part: its kind, range, tally, and its entries with the slice that holds them. -/
structure Pm where
  kind : Int
  lo : ByteArray
  hi : ByteArray
  op : Bool
  cnt : Int
  s0 : Int
  s1 : Int
  ea : Option Addr
  el : Nat
  ec : Nat
  T : Nat → En
def Pm.rg (p : Pm) : Rg := ⟨p.lo, p.hi, p.op⟩
/-- Whether it has no fields but its own. -/
def Pm.alone (p : Pm) : Bool := if p.kind = 1 then p.el == 0 else if p.kind = 2 ∨ p.kind = 3 then p.cnt == 0 && (p.s0 == 0 && p.s1 == 0) else false
/-- What is wrong with a tally. -/
def tlChk (c a b : Int) : Int := if c < 0 ∨ 256 < c then 117 else if c = 0 ∧ ¬ (a = 0 ∧ b = 0) then 117 else 0
/-- What is wrong with the entry i of a part. -/
def itAt (r : Rg) (T : Nat → En) (i : Nat) : Int := if (T i).chk ≠ 0 then (T i).chk else if r.has (T i).k = false ∨ (0 < i ∧ kLt (T (i - 1)).k (T i).k = false) then 116 else 0
/-- What is wrong first with n entries of a part. -/
def itN (r : Rg) (T : Nat → En) : Nat → Int
  | 0 => 0
  | n + 1 => if itN r T n ≠ 0 then itN r T n else itAt r T n
/-- What is wrong with the entries of a part. -/
def Pm.its (p : Pm) : Int := if itN p.rg p.T p.el ≠ 0 then itN p.rg p.T p.el else if p.kind = 3 ∧ p.el = 0 then 116 else 0
/-- What is wrong with a part, behind a range. -/
def Pm.chk (p : Pm) (hi : ByteArray) (op : Bool) : Int :=
  if p.alone = false then 114 else if p.rg.chk ≠ 0 then p.rg.chk else if p.rg.emp = true ∨ op = true ∨ kLt p.lo hi = true then 115 else if p.kind = 1 then tlChk p.cnt p.s0 p.s1 else p.its
/-- The range ahead of the part i. -/
def ahHi (P : Nat → Pm) : Nat → ByteArray
  | 0 => ⟨#[]⟩
  | n + 1 => (P n).hi
def ahOp (P : Nat → Pm) : Nat → Bool
  | 0 => false
  | n + 1 => (P n).op
def ahLo (P : Nat → Pm) : Nat → ByteArray
  | 0 => ⟨#[]⟩
  | n + 1 => (P n).lo
def ptAt (P : Nat → Pm) (i : Nat) : Int := (P i).chk (ahHi P i) (ahOp P i)
/-- What is wrong first with n parts. -/
def ptN (P : Nat → Pm) : Nat → Int
  | 0 => 0
  | n + 1 => if ptN P n ≠ 0 then ptN P n else ptAt P n
/-- How many entries n parts have. -/
def totE (P : Nat → Pm) : Nat → Nat
  | 0 => 0
  | n + 1 => totE P n + (P n).el
/-- What is wrong with parts. -/
def psChk (P : Nat → Pm) (n : Nat) : Int := if 768 < n ∨ 256 < totE P n then 113 else ptN P n
/-- Whether parts are those of a first frame. -/
def opening (P : Nat → Pm) (n : Nat) : Bool := decide (n = 1) && ((P 0).kind == 1 && ((P 0).lo.toList == (⟨#[]⟩ : ByteArray).toList && ((P 0).hi.toList == (⟨#[]⟩ : ByteArray).toList && (P 0).op == true)))
theorem totE_mono (P : Nat → Pm) : ∀ {i n : Nat}, i ≤ n → totE P i ≤ totE P n := by
  intro i n h
  induction n with
  | zero => obtain rfl : i = 0 := by omega
            exact Nat.le_refl _
  | succ n ih =>
    rcases Nat.lt_or_ge n i with g | g
    · obtain rfl : i = n + 1 := by omega
      exact Nat.le_refl _
    · have := ih g
      simp only [totE]; omega
theorem el_totE (P : Nat → Pm) {i n : Nat} (h : i < n) : totE P i + (P i).el ≤ totE P n := totE_mono P (i := i + 1) h
section
variable {r : Rg} {T : Nat → En}
theorem itN_step {n : Nat} (h : itN r T n = 0) : itN r T (n + 1) = itAt r T n := by unfold itN; rw [if_neg (by simp [h])]
theorem itN_stay {n : Nat} (h : itN r T n ≠ 0) : ∀ m, n ≤ m → itN r T m = itN r T n := by
  intro m hm
  induction m with
  | zero => obtain rfl : n = 0 := by omega
            rfl
  | succ m ih =>
    rcases Nat.lt_or_ge m n with g | g
    · obtain rfl : n = m + 1 := by omega
      rfl
    · have := ih g
      simp only [itN]; rw [if_pos (by rw [this]; exact h), this]
theorem itN_bad {i n : Nat} (h0 : itN r T i = 0) (hi : i < n) (h : itAt r T i ≠ 0) : itN r T n = itAt r T i := by
  have h1 := itN_step h0
  rw [← h1] at h
  rw [itN_stay h n (by omega), h1]
theorem itAt_ent {i : Nat} (h : (T i).chk ≠ 0) : itAt r T i = (T i).chk := by unfold itAt; rw [if_pos h]
theorem itAt_out {i : Nat} (h : (T i).chk = 0) (h2 : r.has (T i).k = false) : itAt r T i = 116 := by unfold itAt; rw [if_neg (by simp [h]), if_pos (.inl h2)]
theorem itAt_ord {i : Nat} (h : (T i).chk = 0) (h2 : 0 < i ∧ kLt (T (i - 1)).k (T i).k = false) : itAt r T i = 116 := by unfold itAt; rw [if_neg (by simp [h]), if_pos (.inr h2)]
theorem itAt_ok {i : Nat} (h : (T i).chk = 0) (h1 : r.has (T i).k = true) (h2 : ¬ (0 < i ∧ kLt (T (i - 1)).k (T i).k = false)) : itAt r T i = 0 := by
  unfold itAt
  rw [if_neg (by simp [h]), if_neg]
  rintro (g | g)
  · rw [h1] at g; cases g
  · exact h2 g
end
section
variable {P : Nat → Pm}
theorem ptN_step {n : Nat} (h : ptN P n = 0) : ptN P (n + 1) = ptAt P n := by unfold ptN; rw [if_neg (by simp [h])]
theorem ptN_stay {n : Nat} (h : ptN P n ≠ 0) : ∀ m, n ≤ m → ptN P m = ptN P n := by
  intro m hm
  induction m with
  | zero => obtain rfl : n = 0 := by omega
            rfl
  | succ m ih =>
    rcases Nat.lt_or_ge m n with g | g
    · obtain rfl : n = m + 1 := by omega
      rfl
    · have := ih g
      simp only [ptN]; rw [if_pos (by rw [this]; exact h), this]
theorem ptN_bad {i n : Nat} (h0 : ptN P i = 0) (hi : i < n) (h : ptAt P i ≠ 0) : ptN P n = ptAt P i := by
  have h1 := ptN_step h0
  rw [← h1] at h
  rw [ptN_stay h n (by omega), h1]
end
/-- x <= y of two texts, by the order. -/
theorem leqF (x y : ByteArray) : (Op.bytesLess x.toList y.toList || x.toList == y.toList) = !kLt y x := by
  unfold kLt
  cases h1 : Op.bytesLess x.toList y.toList <;> cases h2 : Op.bytesLess y.toList x.toList
  · have e := L_total _ _ h1 h2
    simp [e]
  · have e : (x.toList == y.toList) = false := by
      rw [beq_eq_false_iff_ne]; intro e; rw [e, L_irrefl] at h2; cases h2
    simp [e]
  · simp
  · have := L_trans _ _ _ h1 h2
    rw [L_irrefl] at this
    cases this
end Go.Proofs.Ytbnppmkdhnpdfaa

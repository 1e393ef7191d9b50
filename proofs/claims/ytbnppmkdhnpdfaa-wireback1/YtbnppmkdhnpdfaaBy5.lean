/-
  Ranges and entries read by the reader of frames.
  Tallies and entries read by the reader of frames.
  A list of entries in memory.
  Rows of entries that a call owns: their cells, copies by append, one entry appended.
  Lists of entries read by the reader of frames.
-/
import Derived.Test.YtbnppmkdhnpdfaaBy4
import Derived.Deep.CutBlock
import Derived.Deep.DeepCutAuto
import Derived.Test.YtbnppmkdhnpdfaaBy1
import Derived.OwnWalk
import Derived.Laws.OwnMore
namespace Go.Proofs.Ytbnppmkdhnpdfaa
open Go.RowKit
set_option linter.unusedVariables false
set_option maxRecDepth 100000 in
set_option maxHeartbeats 3200000 in
theorem rkeys_open {br : Nat} {s : ByteArray} {l : List UInt8} {w : World} {p p1 p2 : Nat} {e e1 e2 : Int} {tk : List UInt8} {K : ByteArray} (h : OneR br s l p e w) (hK : (⟨tk.toArray⟩ : ByteArray) = K) (h1 : textSt l p e 16 = (tk, p1, e1)) (h2 : flagSt l p1 e1 = (true, p2, e2)) :
    Calls Try.prog 79 #[.agg #[.pointer (some ⟨br, 0, none⟩)]] w fun r w' => r = .returned (.agg #[.string K, .string ⟨#[]⟩, .bool true]) ∧ OneR br s l p2 e2 w' ∧ Keeps (fun x => x = br) w w' := by
  have C1 := aside (fun w (h : OneR br s l p e w) => one_text_at (K := K) hK h1 h)
  have C2 := aside (fun w (h : OneR br s l p1 e1 w) => one_flag_at h2 h)
  clear hK h1 h2
  have z0 := heap_alloc_new w (.cells #[.pointer (some ⟨br, 0, none⟩)] 72)
  have z1 := heap_alloc_new (w.alloc (.cells #[.pointer (some ⟨br, 0, none⟩)] 72)) (.cells #[.string ⟨#[]⟩, .string ⟨#[]⟩, .bool false] 38)
  simp only [World.size_alloc] at z1
  replace z0 := blk_on z0 (bnew _ (.cells #[.string ⟨#[]⟩, .string ⟨#[]⟩, .bool false] 38))
  have z2 := heap_alloc_new ((w.alloc (.cells #[.pointer (some ⟨br, 0, none⟩)] 72)).alloc (.cells #[.string ⟨#[]⟩, .string ⟨#[]⟩, .bool false] 38)) (.cells #[.string ⟨#[]⟩, .string ⟨#[]⟩, .bool false] 38)
  simp only [World.size_alloc] at z2
  replace z0 := blk_on z0 (bnew _ (.cells #[.string ⟨#[]⟩, .string ⟨#[]⟩, .bool false] 38))
  replace z1 := blk_on z1 (bnew _ (.cells #[.string ⟨#[]⟩, .string ⟨#[]⟩, .bool false] 38))
  have hk0 : Keeps (fun x => x = br) w (((w.alloc (.cells #[.pointer (some ⟨br, 0, none⟩)] 72)).alloc (.cells #[.string ⟨#[]⟩, .string ⟨#[]⟩, .bool false] 38)).alloc (.cells #[.string ⟨#[]⟩, .string ⟨#[]⟩, .bool false] 38)) := (((Keeps.refl (fun x => x = br) w).alloc (.cells #[.pointer (some ⟨br, 0, none⟩)] 72)).alloc (.cells #[.string ⟨#[]⟩, .string ⟨#[]⟩, .bool false] 38)).alloc (.cells #[.string ⟨#[]⟩, .string ⟨#[]⟩, .bool false] 38)
  have hr0 := h.keep ((((Keeps.refl (fun _ => False) w).alloc (.cells #[.pointer (some ⟨br, 0, none⟩)] 72)).alloc (.cells #[.string ⟨#[]⟩, .string ⟨#[]⟩, .bool false] 38)).alloc (.cells #[.string ⟨#[]⟩, .string ⟨#[]⟩, .bool false] 38)) (fun h => h)
  have HBR := aside h.lt
  clear h
  have KB0 := aside z0
  have KB1 := aside z1
  have KB2 := aside z2
  have KK := aside hk0
  have RR := aside hr0
  clear hk0 hr0 z0 z1 z2
  go_enter Try.func79, Try.ntmps79
  go_wp2_with fail
  obtain ⟨i0, hi0⟩ : ∃ i0, w.heap.size = i0 := ⟨_, rfl⟩
  obtain ⟨i1, hi1⟩ : ∃ i1, i0 + 1 = i1 := ⟨_, rfl⟩
  obtain ⟨i2, hi2⟩ : ∃ i2, i1 + 1 = i2 := ⟨_, rfl⟩
  have HN := aside (show w.heap.size ≤ i0 ∧ br ≠ i0 ∧ w.heap.size ≤ i1 ∧ br ≠ i1 ∧ w.heap.size ≤ i2 ∧ br ≠ i2 ∧ i0 ≠ i1 ∧ i0 ≠ i2 ∧ i1 ≠ i0 ∧ i1 ≠ i2 ∧ i2 ≠ i0 ∧ i2 ≠ i1 from by have := HBR.out; omega)
  rw [hi0, hi1, hi2] at ⊢
  rw [hi0] at KB0
  rw [hi0, hi1] at KB1
  rw [hi0, hi1, hi2] at KB2
  clear hi0 hi1 hi2
  generalize ((w.alloc (.cells #[.pointer (some ⟨br, 0, none⟩)] 72)).alloc (.cells #[.string ⟨#[]⟩, .string ⟨#[]⟩, .bool false] 38)).alloc (.cells #[.string ⟨#[]⟩, .string ⟨#[]⟩, .bool false] 38) = X0 at KK RR KB0 KB1 KB2 ⊢
  refine (C1.out _ RR.out).mono ?_
  rintro r w1 ⟨rfl, R1, k1⟩
  replace KB0 := aside ((k1.block i0 (Array.getElem?_eq_some_iff.1 KB0.out).1 (fun h => by have := HN.out; omega)).trans KB0.out)
  replace KB1 := aside ((k1.block i1 (Array.getElem?_eq_some_iff.1 KB1.out).1 (fun h => by have := HN.out; omega)).trans KB1.out)
  replace KB2 := aside ((k1.block i2 (Array.getElem?_eq_some_iff.1 KB2.out).1 (fun h => by have := HN.out; omega)).trans KB2.out)
  replace KK := aside (KK.out.trans k1)
  replace RR := aside R1
  clear k1 R1
  have c2_0 : w1.cell? ⟨i2, 0, none⟩ = some (.string ⟨#[]⟩) := by rw [cell_of_row _ _ 0 _ _ _ KB2.out]; rfl
  have f2_0 := frozen_of_row _ _ 0 _ _ KB2.out
  have c2_1 : w1.cell? ⟨i2, 1, none⟩ = some (.string ⟨#[]⟩) := by rw [cell_of_row _ _ 1 _ _ _ KB2.out]; rfl
  have f2_1 := frozen_of_row _ _ 1 _ _ KB2.out
  have c2_2 : w1.cell? ⟨i2, 2, none⟩ = some (.bool false) := by rw [cell_of_row _ _ 2 _ _ _ KB2.out]; rfl
  have f2_2 := frozen_of_row _ _ 2 _ _ KB2.out
  go_upto_region 3 with fail
  clear c2_0 f2_0 c2_1 f2_1 c2_2 f2_2
  have sk := ((Keeps.refl (fun x => x = i2) w1).setCell (p := ⟨i2, 0, none⟩) (fun _ => rfl) (.string K))
  replace KB0 := aside ((sk.block i0 (Array.getElem?_eq_some_iff.1 KB0.out).1 (fun h => by have := HN.out; omega)).trans KB0.out)
  replace KB1 := aside ((sk.block i1 (Array.getElem?_eq_some_iff.1 KB1.out).1 (fun h => by have := HN.out; omega)).trans KB1.out)
  have kz := (heap_setCell_same _ i2 0 _ _ (.string K) KB2.out)
  simp only [List.setIfInBounds_toArray, List.set_cons_zero] at kz
  replace KB2 := aside kz
  replace RR := aside (RR.out.keep sk (fun h => by have := HN.out; omega))
  replace KK := aside (KK.out.setCell (p := ⟨i2, 0, none⟩) (fun h => by have := HN.out; simp only at h; omega) (.string K))
  clear sk kz
  generalize w1.setCell ⟨i2, 0, none⟩ (.string K) = X2 at KK RR KB0 KB1 KB2  ⊢
  have c0_0 : X2.cell? ⟨i0, 0, none⟩ = some (.pointer (some ⟨br, 0, none⟩)) := by rw [cell_of_row _ _ 0 _ _ _ KB0.out]; rfl
  go_wp2_with fail
  refine (C2.out _ RR.out).mono ?_
  rintro r w3 ⟨rfl, R1, k1⟩
  clear c0_0
  replace KB0 := aside ((k1.block i0 (Array.getElem?_eq_some_iff.1 KB0.out).1 (fun h => by have := HN.out; omega)).trans KB0.out)
  replace KB1 := aside ((k1.block i1 (Array.getElem?_eq_some_iff.1 KB1.out).1 (fun h => by have := HN.out; omega)).trans KB1.out)
  replace KB2 := aside ((k1.block i2 (Array.getElem?_eq_some_iff.1 KB2.out).1 (fun h => by have := HN.out; omega)).trans KB2.out)
  replace KK := aside (KK.out.trans k1)
  replace RR := aside R1
  clear k1 R1
  have c2_0 : w3.cell? ⟨i2, 0, none⟩ = some (.string K) := by rw [cell_of_row _ _ 0 _ _ _ KB2.out]; rfl
  have f2_0 := frozen_of_row _ _ 0 _ _ KB2.out
  have c2_1 : w3.cell? ⟨i2, 1, none⟩ = some (.string ⟨#[]⟩) := by rw [cell_of_row _ _ 1 _ _ _ KB2.out]; rfl
  have f2_1 := frozen_of_row _ _ 1 _ _ KB2.out
  have c2_2 : w3.cell? ⟨i2, 2, none⟩ = some (.bool false) := by rw [cell_of_row _ _ 2 _ _ _ KB2.out]; rfl
  have f2_2 := frozen_of_row _ _ 2 _ _ KB2.out
  go_upto_region 4 with fail
  clear c2_0 f2_0 c2_1 f2_1 c2_2 f2_2
  have sk := ((Keeps.refl (fun x => x = i2) w3).setCell (p := ⟨i2, 2, none⟩) (fun _ => rfl) (.bool true))
  replace KB0 := aside ((sk.block i0 (Array.getElem?_eq_some_iff.1 KB0.out).1 (fun h => by have := HN.out; omega)).trans KB0.out)
  replace KB1 := aside ((sk.block i1 (Array.getElem?_eq_some_iff.1 KB1.out).1 (fun h => by have := HN.out; omega)).trans KB1.out)
  have kz := (heap_setCell_same _ i2 2 _ _ (.bool true) KB2.out)
  simp only [List.setIfInBounds_toArray, List.set_cons_zero, List.set_cons_succ] at kz
  replace KB2 := aside kz
  replace RR := aside (RR.out.keep sk (fun h => by have := HN.out; omega))
  replace KK := aside (KK.out.setCell (p := ⟨i2, 2, none⟩) (fun h => by have := HN.out; simp only at h; omega) (.bool true))
  clear sk kz
  generalize w3.setCell ⟨i2, 2, none⟩ (.bool true) = X4 at KK RR KB0 KB1 KB2  ⊢
  have c2_0 : X4.cell? ⟨i2, 0, none⟩ = some (.string K) := by rw [cell_of_row _ _ 0 _ _ _ KB2.out]; rfl
  have c2_1 : X4.cell? ⟨i2, 1, none⟩ = some (.string ⟨#[]⟩) := by rw [cell_of_row _ _ 1 _ _ _ KB2.out]; rfl
  have c2_2 : X4.cell? ⟨i2, 2, none⟩ = some (.bool true) := by rw [cell_of_row _ _ 2 _ _ _ KB2.out]; rfl
  go_upto_region 6 with fail
  clear c2_0 c2_1 c2_2
  have c2_0 : X4.cell? ⟨i2, 0, none⟩ = some (.string K) := by rw [cell_of_row _ _ 0 _ _ _ KB2.out]; rfl
  have c2_1 : X4.cell? ⟨i2, 1, none⟩ = some (.string ⟨#[]⟩) := by rw [cell_of_row _ _ 1 _ _ _ KB2.out]; rfl
  have c2_2 : X4.cell? ⟨i2, 2, none⟩ = some (.bool true) := by rw [cell_of_row _ _ 2 _ _ _ KB2.out]; rfl
  have c1_0 : X4.cell? ⟨i1, 0, none⟩ = some (.string ⟨#[]⟩) := by rw [cell_of_row _ _ 0 _ _ _ KB1.out]; rfl
  have f1_0 := frozen_of_row _ _ 0 _ _ KB1.out
  have c1_1 : X4.cell? ⟨i1, 1, none⟩ = some (.string ⟨#[]⟩) := by rw [cell_of_row _ _ 1 _ _ _ KB1.out]; rfl
  have f1_1 := frozen_of_row _ _ 1 _ _ KB1.out
  have c1_2 : X4.cell? ⟨i1, 2, none⟩ = some (.bool false) := by rw [cell_of_row _ _ 2 _ _ _ KB1.out]; rfl
  have f1_2 := frozen_of_row _ _ 2 _ _ KB1.out
  have SK := aside (((((Keeps.refl (fun x => x = i1) X4).setCell (p := ⟨i1, 0, none⟩) (fun _ => rfl) (.string K)).setCell (p := ⟨i1, 1, none⟩) (fun _ => rfl) (.string ⟨#[]⟩)).setCell (p := ⟨i1, 2, none⟩) (fun _ => rfl) (.bool true)))
  have KF := aside ((((KK.out.setCell (p := ⟨i1, 0, none⟩) (fun h => by have := HN.out; simp only at h; omega) (.string K)).setCell (p := ⟨i1, 1, none⟩) (fun h => by have := HN.out; simp only at h; omega) (.string ⟨#[]⟩)).setCell (p := ⟨i1, 2, none⟩) (fun h => by have := HN.out; simp only at h; omega) (.bool true)))
  have kz := (heap_setCell_same _ i1 2 _ _ (.bool true) (heap_setCell_same _ i1 1 _ _ (.string ⟨#[]⟩) (heap_setCell_same _ i1 0 _ _ (.string K) KB1.out)))
  simp only [List.setIfInBounds_toArray, List.set_cons_zero, List.set_cons_succ] at kz
  have KR := aside kz
  clear kz
  go_wp2
  exact bodyPost_ret (v := .agg #[.string K, .string ⟨#[]⟩, .bool true]) (by simp [results, Try.results79, go_sem, cell_of_row _ _ 0 _ _ _ KR.out, cell_of_row _ _ 1 _ _ _ KR.out, cell_of_row _ _ 2 _ _ _ KR.out]) rfl ⟨rfl, RR.out.keep SK.out (fun h => by have := HN.out; omega), KF.out⟩
set_option maxRecDepth 100000 in
set_option maxHeartbeats 3200000 in
theorem rkeys_shut {br : Nat} {s : ByteArray} {l : List UInt8} {w : World} {p p1 p2 p3 : Nat} {e e1 e2 e3 : Int} {tk tv : List UInt8} {K V : ByteArray} (h : OneR br s l p e w) (hK : (⟨tk.toArray⟩ : ByteArray) = K) (h1 : textSt l p e 16 = (tk, p1, e1)) (h2 : flagSt l p1 e1 = (false, p2, e2)) (hV : (⟨tv.toArray⟩ : ByteArray) = V) (h3 : textSt l p2 e2 16 = (tv, p3, e3)) :
    Calls Try.prog 79 #[.agg #[.pointer (some ⟨br, 0, none⟩)]] w fun r w' => r = .returned (.agg #[.string K, .string V, .bool false]) ∧ OneR br s l p3 e3 w' ∧ Keeps (fun x => x = br) w w' := by
  have C1 := aside (fun w (h : OneR br s l p e w) => one_text_at (K := K) hK h1 h)
  have C2 := aside (fun w (h : OneR br s l p1 e1 w) => one_flag_at h2 h)
  have C3 := aside (fun w (h : OneR br s l p2 e2 w) => one_text_at (K := V) hV h3 h)
  clear hK h1 h2 hV h3
  have z0 := heap_alloc_new w (.cells #[.pointer (some ⟨br, 0, none⟩)] 72)
  have z1 := heap_alloc_new (w.alloc (.cells #[.pointer (some ⟨br, 0, none⟩)] 72)) (.cells #[.string ⟨#[]⟩, .string ⟨#[]⟩, .bool false] 38)
  simp only [World.size_alloc] at z1
  replace z0 := blk_on z0 (bnew _ (.cells #[.string ⟨#[]⟩, .string ⟨#[]⟩, .bool false] 38))
  have z2 := heap_alloc_new ((w.alloc (.cells #[.pointer (some ⟨br, 0, none⟩)] 72)).alloc (.cells #[.string ⟨#[]⟩, .string ⟨#[]⟩, .bool false] 38)) (.cells #[.string ⟨#[]⟩, .string ⟨#[]⟩, .bool false] 38)
  simp only [World.size_alloc] at z2
  replace z0 := blk_on z0 (bnew _ (.cells #[.string ⟨#[]⟩, .string ⟨#[]⟩, .bool false] 38))
  replace z1 := blk_on z1 (bnew _ (.cells #[.string ⟨#[]⟩, .string ⟨#[]⟩, .bool false] 38))
  have hk0 : Keeps (fun x => x = br) w (((w.alloc (.cells #[.pointer (some ⟨br, 0, none⟩)] 72)).alloc (.cells #[.string ⟨#[]⟩, .string ⟨#[]⟩, .bool false] 38)).alloc (.cells #[.string ⟨#[]⟩, .string ⟨#[]⟩, .bool false] 38)) := (((Keeps.refl (fun x => x = br) w).alloc (.cells #[.pointer (some ⟨br, 0, none⟩)] 72)).alloc (.cells #[.string ⟨#[]⟩, .string ⟨#[]⟩, .bool false] 38)).alloc (.cells #[.string ⟨#[]⟩, .string ⟨#[]⟩, .bool false] 38)
  have hr0 := h.keep ((((Keeps.refl (fun _ => False) w).alloc (.cells #[.pointer (some ⟨br, 0, none⟩)] 72)).alloc (.cells #[.string ⟨#[]⟩, .string ⟨#[]⟩, .bool false] 38)).alloc (.cells #[.string ⟨#[]⟩, .string ⟨#[]⟩, .bool false] 38)) (fun h => h)
  have HBR := aside h.lt
  clear h
  have KB0 := aside z0
  have KB1 := aside z1
  have KB2 := aside z2
  have KK := aside hk0
  have RR := aside hr0
  clear hk0 hr0 z0 z1 z2
  go_enter Try.func79, Try.ntmps79
  go_wp2_with fail
  obtain ⟨i0, hi0⟩ : ∃ i0, w.heap.size = i0 := ⟨_, rfl⟩
  obtain ⟨i1, hi1⟩ : ∃ i1, i0 + 1 = i1 := ⟨_, rfl⟩
  obtain ⟨i2, hi2⟩ : ∃ i2, i1 + 1 = i2 := ⟨_, rfl⟩
  have HN := aside (show w.heap.size ≤ i0 ∧ br ≠ i0 ∧ w.heap.size ≤ i1 ∧ br ≠ i1 ∧ w.heap.size ≤ i2 ∧ br ≠ i2 ∧ i0 ≠ i1 ∧ i0 ≠ i2 ∧ i1 ≠ i0 ∧ i1 ≠ i2 ∧ i2 ≠ i0 ∧ i2 ≠ i1 from by have := HBR.out; omega)
  rw [hi0, hi1, hi2] at ⊢
  rw [hi0] at KB0
  rw [hi0, hi1] at KB1
  rw [hi0, hi1, hi2] at KB2
  clear hi0 hi1 hi2
  generalize ((w.alloc (.cells #[.pointer (some ⟨br, 0, none⟩)] 72)).alloc (.cells #[.string ⟨#[]⟩, .string ⟨#[]⟩, .bool false] 38)).alloc (.cells #[.string ⟨#[]⟩, .string ⟨#[]⟩, .bool false] 38) = X0 at KK RR KB0 KB1 KB2 ⊢
  refine (C1.out _ RR.out).mono ?_
  rintro r w1 ⟨rfl, R1, k1⟩
  replace KB0 := aside ((k1.block i0 (Array.getElem?_eq_some_iff.1 KB0.out).1 (fun h => by have := HN.out; omega)).trans KB0.out)
  replace KB1 := aside ((k1.block i1 (Array.getElem?_eq_some_iff.1 KB1.out).1 (fun h => by have := HN.out; omega)).trans KB1.out)
  replace KB2 := aside ((k1.block i2 (Array.getElem?_eq_some_iff.1 KB2.out).1 (fun h => by have := HN.out; omega)).trans KB2.out)
  replace KK := aside (KK.out.trans k1)
  replace RR := aside R1
  clear k1 R1
  have c2_0 : w1.cell? ⟨i2, 0, none⟩ = some (.string ⟨#[]⟩) := by rw [cell_of_row _ _ 0 _ _ _ KB2.out]; rfl
  have f2_0 := frozen_of_row _ _ 0 _ _ KB2.out
  have c2_1 : w1.cell? ⟨i2, 1, none⟩ = some (.string ⟨#[]⟩) := by rw [cell_of_row _ _ 1 _ _ _ KB2.out]; rfl
  have f2_1 := frozen_of_row _ _ 1 _ _ KB2.out
  have c2_2 : w1.cell? ⟨i2, 2, none⟩ = some (.bool false) := by rw [cell_of_row _ _ 2 _ _ _ KB2.out]; rfl
  have f2_2 := frozen_of_row _ _ 2 _ _ KB2.out
  go_upto_region 3 with fail
  clear c2_0 f2_0 c2_1 f2_1 c2_2 f2_2
  have sk := ((Keeps.refl (fun x => x = i2) w1).setCell (p := ⟨i2, 0, none⟩) (fun _ => rfl) (.string K))
  replace KB0 := aside ((sk.block i0 (Array.getElem?_eq_some_iff.1 KB0.out).1 (fun h => by have := HN.out; omega)).trans KB0.out)
  replace KB1 := aside ((sk.block i1 (Array.getElem?_eq_some_iff.1 KB1.out).1 (fun h => by have := HN.out; omega)).trans KB1.out)
  have kz := (heap_setCell_same _ i2 0 _ _ (.string K) KB2.out)
  simp only [List.setIfInBounds_toArray, List.set_cons_zero] at kz
  replace KB2 := aside kz
  replace RR := aside (RR.out.keep sk (fun h => by have := HN.out; omega))
  replace KK := aside (KK.out.setCell (p := ⟨i2, 0, none⟩) (fun h => by have := HN.out; simp only at h; omega) (.string K))
  clear sk kz
  generalize w1.setCell ⟨i2, 0, none⟩ (.string K) = X2 at KK RR KB0 KB1 KB2  ⊢
  have c0_0 : X2.cell? ⟨i0, 0, none⟩ = some (.pointer (some ⟨br, 0, none⟩)) := by rw [cell_of_row _ _ 0 _ _ _ KB0.out]; rfl
  go_wp2_with fail
  refine (C2.out _ RR.out).mono ?_
  rintro r w3 ⟨rfl, R1, k1⟩
  clear c0_0
  replace KB0 := aside ((k1.block i0 (Array.getElem?_eq_some_iff.1 KB0.out).1 (fun h => by have := HN.out; omega)).trans KB0.out)
  replace KB1 := aside ((k1.block i1 (Array.getElem?_eq_some_iff.1 KB1.out).1 (fun h => by have := HN.out; omega)).trans KB1.out)
  replace KB2 := aside ((k1.block i2 (Array.getElem?_eq_some_iff.1 KB2.out).1 (fun h => by have := HN.out; omega)).trans KB2.out)
  replace KK := aside (KK.out.trans k1)
  replace RR := aside R1
  clear k1 R1
  have c2_0 : w3.cell? ⟨i2, 0, none⟩ = some (.string K) := by rw [cell_of_row _ _ 0 _ _ _ KB2.out]; rfl
  have f2_0 := frozen_of_row _ _ 0 _ _ KB2.out
  have c2_1 : w3.cell? ⟨i2, 1, none⟩ = some (.string ⟨#[]⟩) := by rw [cell_of_row _ _ 1 _ _ _ KB2.out]; rfl
  have f2_1 := frozen_of_row _ _ 1 _ _ KB2.out
  have c2_2 : w3.cell? ⟨i2, 2, none⟩ = some (.bool false) := by rw [cell_of_row _ _ 2 _ _ _ KB2.out]; rfl
  have f2_2 := frozen_of_row _ _ 2 _ _ KB2.out
  go_upto_region 4 with fail
  clear c2_0 f2_0 c2_1 f2_1 c2_2 f2_2
  have sk := ((Keeps.refl (fun x => x = i2) w3).setCell (p := ⟨i2, 2, none⟩) (fun _ => rfl) (.bool false))
  replace KB0 := aside ((sk.block i0 (Array.getElem?_eq_some_iff.1 KB0.out).1 (fun h => by have := HN.out; omega)).trans KB0.out)
  replace KB1 := aside ((sk.block i1 (Array.getElem?_eq_some_iff.1 KB1.out).1 (fun h => by have := HN.out; omega)).trans KB1.out)
  have kz := (heap_setCell_same _ i2 2 _ _ (.bool false) KB2.out)
  simp only [List.setIfInBounds_toArray, List.set_cons_zero, List.set_cons_succ] at kz
  replace KB2 := aside kz
  replace RR := aside (RR.out.keep sk (fun h => by have := HN.out; omega))
  replace KK := aside (KK.out.setCell (p := ⟨i2, 2, none⟩) (fun h => by have := HN.out; simp only at h; omega) (.bool false))
  clear sk kz
  generalize w3.setCell ⟨i2, 2, none⟩ (.bool false) = X4 at KK RR KB0 KB1 KB2  ⊢
  have c2_0 : X4.cell? ⟨i2, 0, none⟩ = some (.string K) := by rw [cell_of_row _ _ 0 _ _ _ KB2.out]; rfl
  have c2_1 : X4.cell? ⟨i2, 1, none⟩ = some (.string ⟨#[]⟩) := by rw [cell_of_row _ _ 1 _ _ _ KB2.out]; rfl
  have c2_2 : X4.cell? ⟨i2, 2, none⟩ = some (.bool false) := by rw [cell_of_row _ _ 2 _ _ _ KB2.out]; rfl
  have c0_0 : X4.cell? ⟨i0, 0, none⟩ = some (.pointer (some ⟨br, 0, none⟩)) := by rw [cell_of_row _ _ 0 _ _ _ KB0.out]; rfl
  go_wp2_with fail
  refine (C3.out _ RR.out).mono ?_
  rintro r w5 ⟨rfl, R1, k1⟩
  clear c2_0 c2_1 c2_2 c0_0
  replace KB0 := aside ((k1.block i0 (Array.getElem?_eq_some_iff.1 KB0.out).1 (fun h => by have := HN.out; omega)).trans KB0.out)
  replace KB1 := aside ((k1.block i1 (Array.getElem?_eq_some_iff.1 KB1.out).1 (fun h => by have := HN.out; omega)).trans KB1.out)
  replace KB2 := aside ((k1.block i2 (Array.getElem?_eq_some_iff.1 KB2.out).1 (fun h => by have := HN.out; omega)).trans KB2.out)
  replace KK := aside (KK.out.trans k1)
  replace RR := aside R1
  clear k1 R1
  have c2_0 : w5.cell? ⟨i2, 0, none⟩ = some (.string K) := by rw [cell_of_row _ _ 0 _ _ _ KB2.out]; rfl
  have f2_0 := frozen_of_row _ _ 0 _ _ KB2.out
  have c2_1 : w5.cell? ⟨i2, 1, none⟩ = some (.string ⟨#[]⟩) := by rw [cell_of_row _ _ 1 _ _ _ KB2.out]; rfl
  have f2_1 := frozen_of_row _ _ 1 _ _ KB2.out
  have c2_2 : w5.cell? ⟨i2, 2, none⟩ = some (.bool false) := by rw [cell_of_row _ _ 2 _ _ _ KB2.out]; rfl
  have f2_2 := frozen_of_row _ _ 2 _ _ KB2.out
  go_upto_region 6 with fail
  clear c2_0 f2_0 c2_1 f2_1 c2_2 f2_2
  have sk := ((Keeps.refl (fun x => x = i2) w5).setCell (p := ⟨i2, 1, none⟩) (fun _ => rfl) (.string V))
  replace KB0 := aside ((sk.block i0 (Array.getElem?_eq_some_iff.1 KB0.out).1 (fun h => by have := HN.out; omega)).trans KB0.out)
  replace KB1 := aside ((sk.block i1 (Array.getElem?_eq_some_iff.1 KB1.out).1 (fun h => by have := HN.out; omega)).trans KB1.out)
  have kz := (heap_setCell_same _ i2 1 _ _ (.string V) KB2.out)
  simp only [List.setIfInBounds_toArray, List.set_cons_zero, List.set_cons_succ] at kz
  replace KB2 := aside kz
  replace RR := aside (RR.out.keep sk (fun h => by have := HN.out; omega))
  replace KK := aside (KK.out.setCell (p := ⟨i2, 1, none⟩) (fun h => by have := HN.out; simp only at h; omega) (.string V))
  clear sk kz
  generalize w5.setCell ⟨i2, 1, none⟩ (.string V) = X6 at KK RR KB0 KB1 KB2  ⊢
  have c2_0 : X6.cell? ⟨i2, 0, none⟩ = some (.string K) := by rw [cell_of_row _ _ 0 _ _ _ KB2.out]; rfl
  have c2_1 : X6.cell? ⟨i2, 1, none⟩ = some (.string V) := by rw [cell_of_row _ _ 1 _ _ _ KB2.out]; rfl
  have c2_2 : X6.cell? ⟨i2, 2, none⟩ = some (.bool false) := by rw [cell_of_row _ _ 2 _ _ _ KB2.out]; rfl
  have c1_0 : X6.cell? ⟨i1, 0, none⟩ = some (.string ⟨#[]⟩) := by rw [cell_of_row _ _ 0 _ _ _ KB1.out]; rfl
  have f1_0 := frozen_of_row _ _ 0 _ _ KB1.out
  have c1_1 : X6.cell? ⟨i1, 1, none⟩ = some (.string ⟨#[]⟩) := by rw [cell_of_row _ _ 1 _ _ _ KB1.out]; rfl
  have f1_1 := frozen_of_row _ _ 1 _ _ KB1.out
  have c1_2 : X6.cell? ⟨i1, 2, none⟩ = some (.bool false) := by rw [cell_of_row _ _ 2 _ _ _ KB1.out]; rfl
  have f1_2 := frozen_of_row _ _ 2 _ _ KB1.out
  have SK := aside (((((Keeps.refl (fun x => x = i1) X6).setCell (p := ⟨i1, 0, none⟩) (fun _ => rfl) (.string K)).setCell (p := ⟨i1, 1, none⟩) (fun _ => rfl) (.string V)).setCell (p := ⟨i1, 2, none⟩) (fun _ => rfl) (.bool false)))
  have KF := aside ((((KK.out.setCell (p := ⟨i1, 0, none⟩) (fun h => by have := HN.out; simp only at h; omega) (.string K)).setCell (p := ⟨i1, 1, none⟩) (fun h => by have := HN.out; simp only at h; omega) (.string V)).setCell (p := ⟨i1, 2, none⟩) (fun h => by have := HN.out; simp only at h; omega) (.bool false)))
  have kz := (heap_setCell_same _ i1 2 _ _ (.bool false) (heap_setCell_same _ i1 1 _ _ (.string V) (heap_setCell_same _ i1 0 _ _ (.string K) KB1.out)))
  simp only [List.setIfInBounds_toArray, List.set_cons_zero, List.set_cons_succ] at kz
  have KR := aside kz
  clear kz
  go_wp2
  exact bodyPost_ret (v := .agg #[.string K, .string V, .bool false]) (by simp [results, Try.results79, go_sem, cell_of_row _ _ 0 _ _ _ KR.out, cell_of_row _ _ 1 _ _ _ KR.out, cell_of_row _ _ 2 _ _ _ KR.out]) rfl ⟨rfl, RR.out.keep SK.out (fun h => by have := HN.out; omega), KF.out⟩
theorem rkeys_at {br : Nat} {s : ByteArray} {l : List UInt8} {w : World} {p p' : Nat} {e e' : Int} {lo hi : ByteArray} {op : Bool} (h : OneR br s l p e w) (hk : keysSt l p e = ((lo, hi, op), p', e')) :
    Calls Try.prog 79 #[.agg #[.pointer (some ⟨br, 0, none⟩)]] w fun r w' => r = .returned (.agg #[.string lo, .string hi, .bool op]) ∧ OneR br s l p' e' w' ∧ Keeps (fun x => x = br) w w' := by
  rcases h1 : textSt l p e 16 with ⟨tk, p1, e1⟩
  rcases h2 : flagSt l p1 e1 with ⟨d, p2, e2⟩
  cases d
  · rcases h3 : textSt l p2 e2 16 with ⟨tv, p3, e3⟩
    rw [keysSt_shut h1 h2 h3] at hk
    simp only [Prod.mk.injEq] at hk
    obtain ⟨⟨rfl, rfl, rfl⟩, rfl, rfl⟩ := hk
    exact rkeys_shut h rfl h1 h2 rfl h3
  · rw [keysSt_open h1 h2] at hk
    simp only [Prod.mk.injEq] at hk
    obtain ⟨⟨rfl, rfl, rfl⟩, rfl, rfl⟩ := hk
    exact rkeys_open h rfl h1 h2
set_option maxRecDepth 100000 in
set_option maxHeartbeats 3200000 in
theorem rentry_at {br : Nat} {s : ByteArray} {l : List UInt8} {w : World} {p p' : Nat} {e e' : Int} {R : En} (h : OneR br s l p e w) (hg : getSt l p e = (R, p', e')) :
    Calls Try.prog 82 #[.agg #[.pointer (some ⟨br, 0, none⟩)]] w fun r w' => r = .returned (.agg #[.string R.k, .int .i64 R.c, .int .i64 R.n, .string R.v, .bool R.d]) ∧ OneR br s l p' e' w' ∧ Keeps (fun x => x = br) w w' := by
  have C1 := aside (fun w (h : OneR br s l p e w) => get_at h hg)
  clear hg
  obtain ⟨Rk, Rc, Rn, Rv, Rd⟩ := R
  have z0 := heap_alloc_new w (.cells #[.pointer (some ⟨br, 0, none⟩)] 72)
  have z1 := heap_alloc_new (w.alloc (.cells #[.pointer (some ⟨br, 0, none⟩)] 72)) (.cells #[.string ⟨#[]⟩, .int .i64 0, .int .i64 0, .string ⟨#[]⟩, .bool false] 50)
  simp only [World.size_alloc] at z1
  replace z0 := blk_on z0 (bnew _ (.cells #[.string ⟨#[]⟩, .int .i64 0, .int .i64 0, .string ⟨#[]⟩, .bool false] 50))
  have hk0 : Keeps (fun x => x = br) w ((w.alloc (.cells #[.pointer (some ⟨br, 0, none⟩)] 72)).alloc (.cells #[.string ⟨#[]⟩, .int .i64 0, .int .i64 0, .string ⟨#[]⟩, .bool false] 50)) := ((Keeps.refl (fun x => x = br) w).alloc (.cells #[.pointer (some ⟨br, 0, none⟩)] 72)).alloc (.cells #[.string ⟨#[]⟩, .int .i64 0, .int .i64 0, .string ⟨#[]⟩, .bool false] 50)
  have hr0 := h.keep (((Keeps.refl (fun _ => False) w).alloc (.cells #[.pointer (some ⟨br, 0, none⟩)] 72)).alloc (.cells #[.string ⟨#[]⟩, .int .i64 0, .int .i64 0, .string ⟨#[]⟩, .bool false] 50)) (fun h => h)
  have HBR := aside h.lt
  clear h
  have KB0 := aside z0
  have KB1 := aside z1
  have KK := aside hk0
  have RR := aside hr0
  clear hk0 hr0 z0 z1
  go_enter Try.func82, Try.ntmps82
  go_wp2_with fail
  obtain ⟨i0, hi0⟩ : ∃ i0, w.heap.size = i0 := ⟨_, rfl⟩
  obtain ⟨i1, hi1⟩ : ∃ i1, i0 + 1 = i1 := ⟨_, rfl⟩
  have HN := aside (show w.heap.size ≤ i0 ∧ br ≠ i0 ∧ w.heap.size ≤ i1 ∧ br ≠ i1 ∧ i0 ≠ i1 ∧ i1 ≠ i0 from by have := HBR.out; omega)
  rw [hi0, hi1] at ⊢
  rw [hi0] at KB0
  rw [hi0, hi1] at KB1
  clear hi0 hi1
  generalize (w.alloc (.cells #[.pointer (some ⟨br, 0, none⟩)] 72)).alloc (.cells #[.string ⟨#[]⟩, .int .i64 0, .int .i64 0, .string ⟨#[]⟩, .bool false] 50) = X0 at KK RR KB0 KB1 ⊢
  refine (C1.out _ RR.out).mono ?_
  rintro r w1 ⟨rfl, R1, k1⟩
  replace KB0 := aside ((k1.block i0 (Array.getElem?_eq_some_iff.1 KB0.out).1 (fun h => by have := HN.out; omega)).trans KB0.out)
  replace KB1 := aside ((k1.block i1 (Array.getElem?_eq_some_iff.1 KB1.out).1 (fun h => by have := HN.out; omega)).trans KB1.out)
  replace KK := aside (KK.out.trans k1)
  replace RR := aside R1
  clear k1 R1
  have c1_0 : w1.cell? ⟨i1, 0, none⟩ = some (.string ⟨#[]⟩) := by rw [cell_of_row _ _ 0 _ _ _ KB1.out]; rfl
  have f1_0 := frozen_of_row _ _ 0 _ _ KB1.out
  have c1_1 : w1.cell? ⟨i1, 1, none⟩ = some (.int .i64 0) := by rw [cell_of_row _ _ 1 _ _ _ KB1.out]; rfl
  have f1_1 := frozen_of_row _ _ 1 _ _ KB1.out
  have c1_2 : w1.cell? ⟨i1, 2, none⟩ = some (.int .i64 0) := by rw [cell_of_row _ _ 2 _ _ _ KB1.out]; rfl
  have f1_2 := frozen_of_row _ _ 2 _ _ KB1.out
  have c1_3 : w1.cell? ⟨i1, 3, none⟩ = some (.string ⟨#[]⟩) := by rw [cell_of_row _ _ 3 _ _ _ KB1.out]; rfl
  have f1_3 := frozen_of_row _ _ 3 _ _ KB1.out
  have c1_4 : w1.cell? ⟨i1, 4, none⟩ = some (.bool false) := by rw [cell_of_row _ _ 4 _ _ _ KB1.out]; rfl
  have f1_4 := frozen_of_row _ _ 4 _ _ KB1.out
  have SK := aside (((((((Keeps.refl (fun x => x = i1) w1).setCell (p := ⟨i1, 0, none⟩) (fun _ => rfl) (.string Rk)).setCell (p := ⟨i1, 1, none⟩) (fun _ => rfl) (.int .i64 Rc)).setCell (p := ⟨i1, 2, none⟩) (fun _ => rfl) (.int .i64 Rn)).setCell (p := ⟨i1, 3, none⟩) (fun _ => rfl) (.string Rv)).setCell (p := ⟨i1, 4, none⟩) (fun _ => rfl) (.bool Rd)))
  have KF := aside ((((((KK.out.setCell (p := ⟨i1, 0, none⟩) (fun h => by have := HN.out; simp only at h; omega) (.string Rk)).setCell (p := ⟨i1, 1, none⟩) (fun h => by have := HN.out; simp only at h; omega) (.int .i64 Rc)).setCell (p := ⟨i1, 2, none⟩) (fun h => by have := HN.out; simp only at h; omega) (.int .i64 Rn)).setCell (p := ⟨i1, 3, none⟩) (fun h => by have := HN.out; simp only at h; omega) (.string Rv)).setCell (p := ⟨i1, 4, none⟩) (fun h => by have := HN.out; simp only at h; omega) (.bool Rd)))
  have kz := (heap_setCell_same _ i1 4 _ _ (.bool Rd) (heap_setCell_same _ i1 3 _ _ (.string Rv) (heap_setCell_same _ i1 2 _ _ (.int .i64 Rn) (heap_setCell_same _ i1 1 _ _ (.int .i64 Rc) (heap_setCell_same _ i1 0 _ _ (.string Rk) KB1.out)))))
  simp only [List.setIfInBounds_toArray, List.set_cons_zero, List.set_cons_succ] at kz
  have KR := aside kz
  clear kz
  go_wp2
  exact bodyPost_ret (v := .agg #[.string Rk, .int .i64 Rc, .int .i64 Rn, .string Rv, .bool Rd]) (by simp [results, Try.results82, go_sem, cell_of_row _ _ 0 _ _ _ KR.out, cell_of_row _ _ 1 _ _ _ KR.out, cell_of_row _ _ 2 _ _ _ KR.out, cell_of_row _ _ 3 _ _ _ KR.out, cell_of_row _ _ 4 _ _ _ KR.out]) rfl ⟨rfl, RR.out.keep SK.out (fun h => by have := HN.out; omega), KF.out⟩
end Go.Proofs.Ytbnppmkdhnpdfaa
namespace Go.Proofs.Ytbnppmkdhnpdfaa
open Go.RowKit
set_option linter.unusedVariables false
theorem one_word (w : World) {br : Nat} {s : ByteArray} {l : List UInt8} {p : Nat} {e : Int} (h : OneR br s l p e w) :
    Calls Try.prog 94 #[.pointer (some ⟨br, 0, none⟩)] w fun r w' => r = .returned (.int .u64 ((wordSt l p e).1 : Int)) ∧ IsR br s ((wordSt l p e).2.1 : Int) (wordSt l p e).2.2 w' ∧ Keeps (fun x => x = br) w w' := by
  have hs := h.size
  by_cases he : e = 0
  · subst he
    by_cases h8 : l.length < p + 8
    · have e1 : wordSt l p 0 = (0, p, 10) := by unfold wordSt; rw [if_neg (by simp), if_pos h8]
      rw [e1]
      exact rword_short br s p 0 w h.code (by rw [hs]; exact h.le) (by omega) (by rw [hs]; exact h.small)
    · have e1 : wordSt l p 0 = (valB ((l.drop p).take 8), p + 8, 0) := by unfold wordSt; rw [if_neg (by simp), if_neg h8]
      have h2 := rword_ok br s p w h.code (by omega) (by rw [hs]; exact h.small)
      rw [h.text] at h2
      rw [e1]
      exact h2
  · have e1 : wordSt l p e = (0, p, e) := by unfold wordSt; rw [if_pos he]
    rw [e1]
    by_cases h8 : l.length < p + 8
    · have h2 := rword_short br s p e w h.code (by rw [hs]; exact h.le) (by omega) (by rw [hs]; exact h.small)
      rw [show failOf e 10 = e from if_neg he] at h2
      exact h2
    · exact rword_broken br s p e w h.code he (by omega) (by rw [hs]; exact h.small)
theorem one_word_at {br : Nat} {s : ByteArray} {l : List UInt8} {p p' n : Nat} {e e' : Int} {w : World} (ht : wordSt l p e = (n, p', e')) (h : OneR br s l p e w) :
    Calls Try.prog 94 #[.pointer (some ⟨br, 0, none⟩)] w fun r w' => r = .returned (.int .u64 (n : Int)) ∧ OneR br s l p' e' w' ∧ Keeps (fun x => x = br) w w' := by
  have h1 := one_word w h
  have h2 := wordSt_le l p e h.le
  rw [ht] at h1 h2
  exact h1.mono (by rintro r w' ⟨rfl, h3, h4⟩; exact ⟨rfl, ⟨h3, h.text, h2, h.small⟩, h4⟩)
set_option maxRecDepth 100000 in
set_option maxHeartbeats 3200000 in
theorem rtally_eq {br : Nat} {s : ByteArray} {l : List UInt8} {w : World} {p p1 p2 p3 a b : Nat} {e e1 e2 e3 c : Int} (h : OneR br s l p e w) (h1 : numSt l p e 256 = (c, p1, e1)) (h2 : wordSt l p1 e1 = (a, p2, e2)) (h3 : wordSt l p2 e2 = (b, p3, e3)) :
    Calls Try.prog 80 #[.agg #[.pointer (some ⟨br, 0, none⟩)]] w fun r w' => r = .returned (.agg #[.int .i64 c, .int .u64 (a : Int), .int .u64 (b : Int)]) ∧ OneR br s l p3 e3 w' ∧ Keeps (fun x => x = br) w w' := by
  have C1 := aside (fun w (h : OneR br s l p e w) => one_num_at h1 h)
  have C2 := aside (fun w (h : OneR br s l p1 e1 w) => one_word_at h2 h)
  have C3 := aside (fun w (h : OneR br s l p2 e2 w) => one_word_at h3 h)
  clear h1 h2 h3
  have z0 := heap_alloc_new w (.cells #[.pointer (some ⟨br, 0, none⟩)] 72)
  have z1 := heap_alloc_new (w.alloc (.cells #[.pointer (some ⟨br, 0, none⟩)] 72)) (.cells #[.int .i64 0, .int .u64 0, .int .u64 0] 43)
  simp only [World.size_alloc] at z1
  replace z0 := blk_on z0 (bnew _ (.cells #[.int .i64 0, .int .u64 0, .int .u64 0] 43))
  have z2 := heap_alloc_new ((w.alloc (.cells #[.pointer (some ⟨br, 0, none⟩)] 72)).alloc (.cells #[.int .i64 0, .int .u64 0, .int .u64 0] 43)) (.cells #[.int .i64 0, .int .u64 0, .int .u64 0] 43)
  simp only [World.size_alloc] at z2
  replace z0 := blk_on z0 (bnew _ (.cells #[.int .i64 0, .int .u64 0, .int .u64 0] 43))
  replace z1 := blk_on z1 (bnew _ (.cells #[.int .i64 0, .int .u64 0, .int .u64 0] 43))
  have hk0 : Keeps (fun x => x = br) w (((w.alloc (.cells #[.pointer (some ⟨br, 0, none⟩)] 72)).alloc (.cells #[.int .i64 0, .int .u64 0, .int .u64 0] 43)).alloc (.cells #[.int .i64 0, .int .u64 0, .int .u64 0] 43)) := (((Keeps.refl (fun x => x = br) w).alloc (.cells #[.pointer (some ⟨br, 0, none⟩)] 72)).alloc (.cells #[.int .i64 0, .int .u64 0, .int .u64 0] 43)).alloc (.cells #[.int .i64 0, .int .u64 0, .int .u64 0] 43)
  have hr0 := h.keep ((((Keeps.refl (fun _ => False) w).alloc (.cells #[.pointer (some ⟨br, 0, none⟩)] 72)).alloc (.cells #[.int .i64 0, .int .u64 0, .int .u64 0] 43)).alloc (.cells #[.int .i64 0, .int .u64 0, .int .u64 0] 43)) (fun h => h)
  have HBR := aside h.lt
  clear h
  have KB0 := aside z0
  have KB1 := aside z1
  have KB2 := aside z2
  have KK := aside hk0
  have RR := aside hr0
  clear hk0 hr0 z0 z1 z2
  go_enter Try.func80, Try.ntmps80
  go_wp2_with fail
  obtain ⟨i0, hi0⟩ : ∃ i0, w.heap.size = i0 := ⟨_, rfl⟩
  obtain ⟨i1, hi1⟩ : ∃ i1, i0 + 1 = i1 := ⟨_, rfl⟩
  obtain ⟨i2, hi2⟩ : ∃ i2, i1 + 1 = i2 := ⟨_, rfl⟩
  have HN := aside (show w.heap.size ≤ i0 ∧ br ≠ i0 ∧ w.heap.size ≤ i1 ∧ br ≠ i1 ∧ w.heap.size ≤ i2 ∧ br ≠ i2 ∧ i0 ≠ i1 ∧ i0 ≠ i2 ∧ i1 ≠ i0 ∧ i1 ≠ i2 ∧ i2 ≠ i0 ∧ i2 ≠ i1 from by have := HBR.out; omega)
  rw [hi0, hi1, hi2] at ⊢
  rw [hi0] at KB0
  rw [hi0, hi1] at KB1
  rw [hi0, hi1, hi2] at KB2
  clear hi0 hi1 hi2
  generalize ((w.alloc (.cells #[.pointer (some ⟨br, 0, none⟩)] 72)).alloc (.cells #[.int .i64 0, .int .u64 0, .int .u64 0] 43)).alloc (.cells #[.int .i64 0, .int .u64 0, .int .u64 0] 43) = X0 at KK RR KB0 KB1 KB2 ⊢
  refine (C1.out _ RR.out).mono ?_
  rintro r w1 ⟨rfl, R1, k1⟩
  replace KB0 := aside ((k1.block i0 (Array.getElem?_eq_some_iff.1 KB0.out).1 (fun h => by have := HN.out; omega)).trans KB0.out)
  replace KB1 := aside ((k1.block i1 (Array.getElem?_eq_some_iff.1 KB1.out).1 (fun h => by have := HN.out; omega)).trans KB1.out)
  replace KB2 := aside ((k1.block i2 (Array.getElem?_eq_some_iff.1 KB2.out).1 (fun h => by have := HN.out; omega)).trans KB2.out)
  replace KK := aside (KK.out.trans k1)
  replace RR := aside R1
  clear k1 R1
  have c2_0 : w1.cell? ⟨i2, 0, none⟩ = some (.int .i64 0) := by rw [cell_of_row _ _ 0 _ _ _ KB2.out]; rfl
  have f2_0 := frozen_of_row _ _ 0 _ _ KB2.out
  have c2_1 : w1.cell? ⟨i2, 1, none⟩ = some (.int .u64 0) := by rw [cell_of_row _ _ 1 _ _ _ KB2.out]; rfl
  have f2_1 := frozen_of_row _ _ 1 _ _ KB2.out
  have c2_2 : w1.cell? ⟨i2, 2, none⟩ = some (.int .u64 0) := by rw [cell_of_row _ _ 2 _ _ _ KB2.out]; rfl
  have f2_2 := frozen_of_row _ _ 2 _ _ KB2.out
  go_upto_region 3 with fail
  clear c2_0 f2_0 c2_1 f2_1 c2_2 f2_2
  have sk := ((Keeps.refl (fun x => x = i2) w1).setCell (p := ⟨i2, 0, none⟩) (fun _ => rfl) (.int .i64 c))
  replace KB0 := aside ((sk.block i0 (Array.getElem?_eq_some_iff.1 KB0.out).1 (fun h => by have := HN.out; omega)).trans KB0.out)
  replace KB1 := aside ((sk.block i1 (Array.getElem?_eq_some_iff.1 KB1.out).1 (fun h => by have := HN.out; omega)).trans KB1.out)
  have kz := (heap_setCell_same _ i2 0 _ _ (.int .i64 c) KB2.out)
  simp only [List.setIfInBounds_toArray, List.set_cons_zero] at kz
  replace KB2 := aside kz
  replace RR := aside (RR.out.keep sk (fun h => by have := HN.out; omega))
  replace KK := aside (KK.out.setCell (p := ⟨i2, 0, none⟩) (fun h => by have := HN.out; simp only at h; omega) (.int .i64 c))
  clear sk kz
  generalize w1.setCell ⟨i2, 0, none⟩ (.int .i64 c) = X2 at KK RR KB0 KB1 KB2  ⊢
  go_wp2
  go_loopw [9] (fun t wr => Hid (Keeps (fun x => x = br) w wr) ∧ Hid (wr.heap[i0]? = some (.cells #[.pointer (some ⟨br, 0, none⟩)] 72 (0, 0))) ∧ Hid (wr.heap[i1]? = some (.cells #[.int .i64 0, .int .u64 0, .int .u64 0] 43 (0, 0))) ∧ ((t = .int .i64 0 ∧ Hid (OneR br s l p1 e1 wr) ∧ Hid (wr.heap[i2]? = some (.cells #[.int .i64 c, .int .u64 0, .int .u64 0] 43 (0, 0)))) ∨ (t = .int .i64 1 ∧ Hid (OneR br s l p2 e2 wr) ∧ Hid (wr.heap[i2]? = some (.cells #[.int .i64 c, .int .u64 (a : Int), .int .u64 0] 43 (0, 0)))) ∨ (t = .int .i64 2 ∧ Hid (OneR br s l p3 e3 wr) ∧ Hid (wr.heap[i2]? = some (.cells #[.int .i64 c, .int .u64 (a : Int), .int .u64 (b : Int)] 43 (0, 0)))))) (fun t _ => 2 - (intOf t).toNat)
  case atStart => exact ⟨KK.out, KB0.out, KB1.out, .inl ⟨rfl, RR.out, KB2.out⟩⟩
  case round =>
    clear KK KB0 KB1 KB2 RR
    obtain ⟨KK, KB0, KB1, ⟨rfl, RR, KB2⟩ | ⟨rfl, RR, KB2⟩ | ⟨rfl, RR, KB2⟩⟩ := hrel
    · have c0_0 : wr.cell? ⟨i0, 0, none⟩ = some (.pointer (some ⟨br, 0, none⟩)) := by rw [cell_of_row _ _ 0 _ _ _ KB0.out]; rfl
      go_wp2_with fail
      refine (C2.out _ RR.out).mono ?_
      rintro r w1 ⟨rfl, R1, k1⟩
      clear c0_0
      replace KB0 := aside ((k1.block i0 (Array.getElem?_eq_some_iff.1 KB0.out).1 (fun h => by have := HN.out; omega)).trans KB0.out)
      replace KB1 := aside ((k1.block i1 (Array.getElem?_eq_some_iff.1 KB1.out).1 (fun h => by have := HN.out; omega)).trans KB1.out)
      replace KB2 := aside ((k1.block i2 (Array.getElem?_eq_some_iff.1 KB2.out).1 (fun h => by have := HN.out; omega)).trans KB2.out)
      replace KK := aside (KK.out.trans k1)
      replace RR := aside R1
      clear k1 R1
      have c2_0 : w1.cell? ⟨i2, 0, none⟩ = some (.int .i64 c) := by rw [cell_of_row _ _ 0 _ _ _ KB2.out]; rfl
      have f2_0 := frozen_of_row _ _ 0 _ _ KB2.out
      have c2_1 : w1.cell? ⟨i2, 1, none⟩ = some (.int .u64 0) := by rw [cell_of_row _ _ 1 _ _ _ KB2.out]; rfl
      have f2_1 := frozen_of_row _ _ 1 _ _ KB2.out
      have c2_2 : w1.cell? ⟨i2, 2, none⟩ = some (.int .u64 0) := by rw [cell_of_row _ _ 2 _ _ _ KB2.out]; rfl
      have f2_2 := frozen_of_row _ _ 2 _ _ KB2.out
      go_upto_region 7 with fail
      clear c2_0 f2_0 c2_1 f2_1 c2_2 f2_2
      have sk := ((Keeps.refl (fun x => x = i2) w1).setCell (p := ⟨i2, 1, none⟩) (fun _ => rfl) (.int .u64 (a : Int)))
      replace KB0 := aside ((sk.block i0 (Array.getElem?_eq_some_iff.1 KB0.out).1 (fun h => by have := HN.out; omega)).trans KB0.out)
      replace KB1 := aside ((sk.block i1 (Array.getElem?_eq_some_iff.1 KB1.out).1 (fun h => by have := HN.out; omega)).trans KB1.out)
      have kz := (heap_setCell_same _ i2 1 _ _ (.int .u64 (a : Int)) KB2.out)
      simp only [List.setIfInBounds_toArray, List.set_cons_zero, List.set_cons_succ] at kz
      replace KB2 := aside kz
      replace RR := aside (RR.out.keep sk (fun h => by have := HN.out; omega))
      replace KK := aside (KK.out.setCell (p := ⟨i2, 1, none⟩) (fun h => by have := HN.out; simp only at h; omega) (.int .u64 (a : Int)))
      clear sk kz
      generalize w1.setCell ⟨i2, 1, none⟩ (.int .u64 (a : Int)) = X2 at KK RR KB0 KB1 KB2  ⊢
      go_wp2
      go_roundw
      case rel => exact ⟨KK.out, KB0.out, KB1.out, .inr (.inl ⟨by rfl, RR.out, KB2.out⟩)⟩
      case measure => simp [intOf]
    · have c0_0 : wr.cell? ⟨i0, 0, none⟩ = some (.pointer (some ⟨br, 0, none⟩)) := by rw [cell_of_row _ _ 0 _ _ _ KB0.out]; rfl
      go_wp2_with fail
      refine (C3.out _ RR.out).mono ?_
      rintro r w1 ⟨rfl, R1, k1⟩
      clear c0_0
      replace KB0 := aside ((k1.block i0 (Array.getElem?_eq_some_iff.1 KB0.out).1 (fun h => by have := HN.out; omega)).trans KB0.out)
      replace KB1 := aside ((k1.block i1 (Array.getElem?_eq_some_iff.1 KB1.out).1 (fun h => by have := HN.out; omega)).trans KB1.out)
      replace KB2 := aside ((k1.block i2 (Array.getElem?_eq_some_iff.1 KB2.out).1 (fun h => by have := HN.out; omega)).trans KB2.out)
      replace KK := aside (KK.out.trans k1)
      replace RR := aside R1
      clear k1 R1
      have c2_0 : w1.cell? ⟨i2, 0, none⟩ = some (.int .i64 c) := by rw [cell_of_row _ _ 0 _ _ _ KB2.out]; rfl
      have f2_0 := frozen_of_row _ _ 0 _ _ KB2.out
      have c2_1 : w1.cell? ⟨i2, 1, none⟩ = some (.int .u64 (a : Int)) := by rw [cell_of_row _ _ 1 _ _ _ KB2.out]; rfl
      have f2_1 := frozen_of_row _ _ 1 _ _ KB2.out
      have c2_2 : w1.cell? ⟨i2, 2, none⟩ = some (.int .u64 0) := by rw [cell_of_row _ _ 2 _ _ _ KB2.out]; rfl
      have f2_2 := frozen_of_row _ _ 2 _ _ KB2.out
      go_upto_region 7 with fail
      clear c2_0 f2_0 c2_1 f2_1 c2_2 f2_2
      have sk := ((Keeps.refl (fun x => x = i2) w1).setCell (p := ⟨i2, 2, none⟩) (fun _ => rfl) (.int .u64 (b : Int)))
      replace KB0 := aside ((sk.block i0 (Array.getElem?_eq_some_iff.1 KB0.out).1 (fun h => by have := HN.out; omega)).trans KB0.out)
      replace KB1 := aside ((sk.block i1 (Array.getElem?_eq_some_iff.1 KB1.out).1 (fun h => by have := HN.out; omega)).trans KB1.out)
      have kz := (heap_setCell_same _ i2 2 _ _ (.int .u64 (b : Int)) KB2.out)
      simp only [List.setIfInBounds_toArray, List.set_cons_zero, List.set_cons_succ] at kz
      replace KB2 := aside kz
      replace RR := aside (RR.out.keep sk (fun h => by have := HN.out; omega))
      replace KK := aside (KK.out.setCell (p := ⟨i2, 2, none⟩) (fun h => by have := HN.out; simp only at h; omega) (.int .u64 (b : Int)))
      clear sk kz
      generalize w1.setCell ⟨i2, 2, none⟩ (.int .u64 (b : Int)) = X2 at KK RR KB0 KB1 KB2  ⊢
      go_wp2
      go_roundw
      case rel => exact ⟨KK.out, KB0.out, KB1.out, .inr (.inr ⟨by rfl, RR.out, KB2.out⟩)⟩
      case measure => simp [intOf]
    · go_upto_region 8 with fail
      have c2_0 : wr.cell? ⟨i2, 0, none⟩ = some (.int .i64 c) := by rw [cell_of_row _ _ 0 _ _ _ KB2.out]; rfl
      have c2_1 : wr.cell? ⟨i2, 1, none⟩ = some (.int .u64 (a : Int)) := by rw [cell_of_row _ _ 1 _ _ _ KB2.out]; rfl
      have c2_2 : wr.cell? ⟨i2, 2, none⟩ = some (.int .u64 (b : Int)) := by rw [cell_of_row _ _ 2 _ _ _ KB2.out]; rfl
      have c1_0 : wr.cell? ⟨i1, 0, none⟩ = some (.int .i64 0) := by rw [cell_of_row _ _ 0 _ _ _ KB1.out]; rfl
      have f1_0 := frozen_of_row _ _ 0 _ _ KB1.out
      have c1_1 : wr.cell? ⟨i1, 1, none⟩ = some (.int .u64 0) := by rw [cell_of_row _ _ 1 _ _ _ KB1.out]; rfl
      have f1_1 := frozen_of_row _ _ 1 _ _ KB1.out
      have c1_2 : wr.cell? ⟨i1, 2, none⟩ = some (.int .u64 0) := by rw [cell_of_row _ _ 2 _ _ _ KB1.out]; rfl
      have f1_2 := frozen_of_row _ _ 2 _ _ KB1.out
      have SK := aside (((((Keeps.refl (fun x => x = i1) wr).setCell (p := ⟨i1, 0, none⟩) (fun _ => rfl) (.int .i64 c)).setCell (p := ⟨i1, 1, none⟩) (fun _ => rfl) (.int .u64 (a : Int))).setCell (p := ⟨i1, 2, none⟩) (fun _ => rfl) (.int .u64 (b : Int))))
      have KF := aside ((((KK.out.setCell (p := ⟨i1, 0, none⟩) (fun h => by have := HN.out; simp only at h; omega) (.int .i64 c)).setCell (p := ⟨i1, 1, none⟩) (fun h => by have := HN.out; simp only at h; omega) (.int .u64 (a : Int))).setCell (p := ⟨i1, 2, none⟩) (fun h => by have := HN.out; simp only at h; omega) (.int .u64 (b : Int))))
      have kz := (heap_setCell_same _ i1 2 _ _ (.int .u64 (b : Int)) (heap_setCell_same _ i1 1 _ _ (.int .u64 (a : Int)) (heap_setCell_same _ i1 0 _ _ (.int .i64 c) KB1.out)))
      simp only [List.setIfInBounds_toArray, List.set_cons_zero, List.set_cons_succ] at kz
      have KR := aside kz
      clear kz
      go_wp2
      exact bodyPost_ret (v := .agg #[.int .i64 c, .int .u64 (a : Int), .int .u64 (b : Int)]) (by simp [results, Try.results80, go_sem, cell_of_row _ _ 0 _ _ _ KR.out, cell_of_row _ _ 1 _ _ _ KR.out, cell_of_row _ _ 2 _ _ _ KR.out]) rfl ⟨rfl, RR.out.keep SK.out (fun h => by have := HN.out; omega), KF.out⟩
theorem rtally_at {br : Nat} {s : ByteArray} {l : List UInt8} {w : World} {p p' a b : Nat} {e e' c : Int} (h : OneR br s l p e w) (hk : tallySt l p e = ((c, a, b), p', e')) :
    Calls Try.prog 80 #[.agg #[.pointer (some ⟨br, 0, none⟩)]] w fun r w' => r = .returned (.agg #[.int .i64 c, .int .u64 (a : Int), .int .u64 (b : Int)]) ∧ OneR br s l p' e' w' ∧ Keeps (fun x => x = br) w w' := by
  rcases h1 : numSt l p e 256 with ⟨c1, p1, e1⟩
  rcases h2 : wordSt l p1 e1 with ⟨a1, p2, e2⟩
  rcases h3 : wordSt l p2 e2 with ⟨b1, p3, e3⟩
  rw [tallySt_eq h1 h2 h3] at hk
  simp only [Prod.mk.injEq] at hk
  obtain ⟨⟨rfl, rfl, rfl⟩, rfl, rfl⟩ := hk
  exact rtally_eq h h1 h2 h3
end Go.Proofs.Ytbnppmkdhnpdfaa
namespace Go.Proofs.Ytbnppmkdhnpdfaa
open Go.RowKit
set_option linter.unusedVariables false
/-- A list of entries in memory, with keys of a size that memory has. -/
def EntsIn (w : World) (a : Option Addr) (len cap : Nat) (T : Nat → En) : Prop :=
  len ≤ cap ∧ cap ≤ maxLen ∧ (len = 0 ∨ ∃ b off, a = some ⟨b, off, none⟩ ∧ b < w.heap.size ∧ ∀ i, i < len →
    (w.cell? ⟨b, off + i * 5, none⟩ = some (.string (T i).k) ∧ w.cell? ⟨b, off + i * 5 + 1, none⟩ = some (.int .i64 (T i).c) ∧ w.cell? ⟨b, off + i * 5 + 2, none⟩ = some (.int .i64 (T i).n) ∧ w.cell? ⟨b, off + i * 5 + 3, none⟩ = some (.string (T i).v) ∧ w.cell? ⟨b, off + i * 5 + 4, none⟩ = some (.bool (T i).d)) ∧ (T i).k.size ≤ 140737488351232)
theorem EntsIn.keep {w w' : World} {a : Option Addr} {len cap : Nat} {T : Nat → En} (h : EntsIn w a len cap T) (b : Below w.heap.size w w') : EntsIn w' a len cap T := by
  obtain ⟨h1, h2, h3⟩ := h
  refine ⟨h1, h2, ?_⟩
  rcases h3 with h3 | ⟨bb, off, rfl, hb, hc⟩
  · exact .inl h3
  · refine .inr ⟨bb, off, rfl, by have := b.size; omega, fun i hi => ?_⟩
    obtain ⟨⟨c0, c1, c2, c3, c4⟩, hk⟩ := hc i hi
    exact ⟨⟨cell_in c0 b, cell_in c1 b, cell_in c2 b, cell_in c3 b, cell_in c4 b⟩, hk⟩
/-- The five cells of an entry's block. -/
theorem quint {w : World} {i : Nat} {a b c d e : Value} {T : TypeId} (h : w.heap[i]? = some (.cells #[a, b, c, d, e] T (0, 0))) :
    w.cell? ⟨i, 0, none⟩ = some a ∧ w.cell? ⟨i, 1, none⟩ = some b ∧ w.cell? ⟨i, 2, none⟩ = some c ∧ w.cell? ⟨i, 3, none⟩ = some d ∧ w.cell? ⟨i, 4, none⟩ = some e :=
  ⟨by simp [World.cell?, h], by simp [World.cell?, h], by simp [World.cell?, h], by simp [World.cell?, h], by simp [World.cell?, h]⟩
end Go.Proofs.Ytbnppmkdhnpdfaa
namespace Go.Proofs.Ytbnppmkdhnpdfaa
open Go.RowKit
set_option linter.unusedVariables false
def entVals (e : En) : List Value := [.string e.k, .int .i64 e.c, .int .i64 e.n, .string e.v, .bool e.d]
def entCells : List En → List Value
  | [] => []
  | e :: r => entVals e ++ entCells r
theorem entCells_length : ∀ l : List En, (entCells l).length = l.length * 5
  | [] => rfl
  | e :: r => by simp only [entCells, List.length_append, entCells_length r, List.length_cons, entVals]; simp; omega
theorem entCells_append : ∀ l m : List En, entCells (l ++ m) = entCells l ++ entCells m
  | [], _ => rfl
  | e :: r, m => by simp [entCells, entCells_append r m]
theorem entCells_at : ∀ (l : List En) (i r : Nat) (e : En), l[i]? = some e → r < 5 → (entCells l)[i * 5 + r]? = (entVals e)[r]?
  | [], i, r, e, h, _ => by simp at h
  | x :: t, 0, r, e, h, hr => by
    simp at h; subst h
    simp only [entCells]
    rw [List.getElem?_append_left (by simp [entVals]; omega)]
    simp
  | x :: t, i + 1, r, e, h, hr => by
    simp only [entCells]
    rw [List.getElem?_append_right (by simp [entVals]; omega)]
    have := entCells_at t i r e (by simpa using h) hr
    rw [← this]
    congr 1
    simp [entVals]
    omega
theorem entCells_one (l : List En) : ∀ u ∈ entCells l, u.oneCell' = true := by
  induction l with
  | nil => intro u hu; simp [entCells] at hu
  | cons e r ih =>
    intro u hu
    simp only [entCells, List.mem_append] at hu
    rcases hu with hu | hu
    · simp [entVals] at hu
      rcases hu with rfl | rfl | rfl | rfl | rfl <;> rfl
    · exact ih u hu
theorem infoEnt : (Try.prog.info? 50).map (fun i => (i.zero, i.size, i.bytes)) = some (some (.agg #[.string ⟨#[]⟩, .int .i64 0, .int .i64 0, .string ⟨#[]⟩, .bool false]), 5, 56) := by kernel_rfl
def nthE (l : List En) (i : Nat) : En := l.getD i ⟨⟨#[]⟩, 0, 0, ⟨#[]⟩, false⟩
theorem nthE_get {l : List En} {i : Nat} (h : i < l.length) : l[i]? = some (nthE l i) := by
  unfold nthE; rw [List.getD, List.getElem?_eq_getElem h]; rfl
/-- The cells of a part of an owned row. -/
theorem row_cells {w : World} {B g cap n : Nat} {l : List En} (h : w.ownsRow B 50 5 (.slice (some ⟨g, 0, none⟩) n cap) n (entCells l)) {i : Nat} (hi : i < l.length) :
    w.cell? ⟨g, i * 5, none⟩ = some (.string (nthE l i).k) ∧ w.cell? ⟨g, i * 5 + 1, none⟩ = some (.int .i64 (nthE l i).c) ∧ w.cell? ⟨g, i * 5 + 2, none⟩ = some (.int .i64 (nthE l i).n) ∧ w.cell? ⟨g, i * 5 + 3, none⟩ = some (.string (nthE l i).v) ∧ w.cell? ⟨g, i * 5 + 4, none⟩ = some (.bool (nthE l i).d) := by
  have hn : l.length = n := by have := h.1; rw [entCells_length] at this; omega
  have e := nthE_get hi
  have c : ∀ r, r < 5 → w.cell? ⟨g, i * 5 + r, none⟩ = (entVals (nthE l i))[r]? := fun r hr => by
    rw [h.cellAt (i * 5 + r) (by omega), entCells_at l i r _ e hr]
  exact ⟨by simpa [entVals] using c 0 (by omega), by simpa [entVals] using c 1 (by omega), by simpa [entVals] using c 2 (by omega), by simpa [entVals] using c 3 (by omega), by simpa [entVals] using c 4 (by omega)⟩
theorem row_max {w : World} {B g cap n : Nat} {xs : List Value} {e s : Nat} (h : w.ownsRow B e s (.slice (some ⟨g, 0, none⟩) n cap) n xs) : n ≤ cap ∧ cap ≤ maxLen := by
  rcases h.2 with ⟨h, _⟩ | ⟨g', cap', cur, h1, h2, h3, h4, h5, h6⟩
  · cases h
  · injection h1 with e1 e2 e3
    omega
/-- One entry appended to an owned row, as one operation. -/
theorem op_append_ent {w : World} {o : Oper} {act : Act} {K : Act → World → Prop} {Q : Exit → Act → World → Prop} (s x : Operand)
    (ho : o.op = .call { callee := .builtin .append, args := #[s, x], argTypes := #[44, 44] })
    (B n : Nat) (v : Value) (l : List En) (hs : act.eval s = v) (hown : w.ownsRow B 50 5 v n (entCells l)) (b c : Nat) (e : En) (hx : act.eval x = .slice (some ⟨b, 0, none⟩) 1 c)
    (hb : w.heap[b]? = some (.cells #[.string e.k, .int .i64 e.c, .int .i64 e.n, .string e.v, .bool e.d] 50 (0, 0))) (hlen : n * 56 ≤ 140737488351232) (hB : B ≤ w.heap.size)
    (h : ∀ g cap w', w'.ownsRow B 50 5 (.slice (some ⟨g, 0, none⟩) (n + 1) cap) (n + 1) (entCells (l ++ [e])) → w.grownBy w' v.ownBlock → K (act.put o.dst (.slice (some ⟨g, 0, none⟩) (n + 1) cap)) w') : o.wp Try.prog act w K Q := by
  obtain ⟨i0, hi, hz0, hz1, hz2⟩ := info_parts infoEnt
  refine wp_append_own w s x _ ho B 50 i0 _ 5 56 Try.underlying44 hi hz0 hz1 hz2 rfl (by decide) _ _ _ hs hown ⟨b, 0, none⟩ 1 c (entVals e) hx rfl ?_ (fun u hu => entCells_one [e] u (by simpa [entCells] using hu)) (by unfold maxLen; omega) (by omega) hB ?_
  · exact World.news_of_block (cs := #[.string e.k, .int .i64 e.c, .int .i64 e.n, .string e.v, .bool e.d]) (t := 50) (fr := (0, 0)) hb
  · intro v' w' ho' hg _
    have e1 : entCells l ++ entVals e = entCells (l ++ [e]) := by rw [entCells_append]; simp [entCells]
    rw [e1] at ho'
    rcases ho'.2 with ⟨h1, h2⟩ | ⟨g, cap', cur, rfl, _⟩
    · omega
    · exact h g cap' w' ho' hg
theorem own_low {w : World} {base base' : Nat} {e : TypeId} {size : Nat} {v : Value} {n : Nat} {xs : List Value} (h : w.ownsRow base e size v n xs) (hb : base' ≤ base) : w.ownsRow base' e size v n xs := by
  refine ⟨h.1, ?_⟩
  rcases h.2 with h0 | ⟨g, cap, cur, h1, h2, h3⟩
  · exact .inl h0
  · exact .inr ⟨g, cap, cur, h1, Nat.le_trans hb h2, h3⟩
theorem own_on {w w' : World} {base : Nat} {e : TypeId} {size : Nat} {v : Value} {n : Nat} {xs : List Value} (h : w.ownsRow base e size v n xs) (hb : Below w.heap.size w w') : w'.ownsRow base e size v n xs := by
  refine ⟨h.1, ?_⟩
  rcases h.2 with h0 | ⟨g, cap, cur, h1, h2, h3, h4⟩
  · exact .inl h0
  · exact .inr ⟨g, cap, cur, h1, h2, blk_on h3 hb, h4⟩
end Go.Proofs.Ytbnppmkdhnpdfaa
namespace Go.Proofs.Ytbnppmkdhnpdfaa
open Go.RowKit
set_option linter.unusedVariables false
theorem own_nots {w : World} {B : Nat} {e t : TypeId} {s n k : Nat} {v : Value} {xs : List Value} {cs : Array Value} (h : w.ownsRow B e s v n xs) (hk : w.heap[k]? = some (.cells cs t (0, 0))) (ht : e ≠ t) : ¬ v.ownBlock = some k := by
  intro h1
  rcases h.2 with ⟨h2, _⟩ | ⟨g, cap, cur, h2, h3, h4, h5⟩
  · rw [h2] at h1; cases h1
  · rw [h2] at h1
    have e1 : g = k := by simpa [Value.ownBlock] using h1
    subst e1
    rw [hk] at h4
    injection h4 with h4
    injection h4 with _ h4 _
    exact ht h4.symm
set_option maxRecDepth 100000 in
set_option maxHeartbeats 3200000 in
theorem rents_at {br : Nat} {s : ByteArray} {l : List UInt8} {w : World} {p p' : Nat} {e e' : Int} {es : List En} (h : OneR br s l p e w) (hn : entriesSt l p e = (es, p', e')) :
    Calls Try.prog 81 #[.agg #[.pointer (some ⟨br, 0, none⟩)], .int .i64 256, .func (.func 82) #[.agg #[.pointer (some ⟨br, 0, none⟩)]] #[]] w fun r w' => ∃ a n c, r = .returned (.slice a n c) ∧ w'.ownsRow w.heap.size 50 5 (.slice a n c) n (entCells es) ∧ OneR br s l p' e' w' ∧ Keeps (fun x => x = br) w w' := by
  obtain ⟨nn, p1, e1, h1⟩ : ∃ nn p1 e1, numSt l p e 256 = (nn, p1, e1) := ⟨_, _, _, rfl⟩
  have hT : entsSt l nn.toNat p1 e1 [] = (es, p', e') := by rw [← hn]; unfold entriesSt; rw [h1]
  obtain ⟨hn0, hn1⟩ := numSt_most (by omega) h.le h1
  obtain ⟨N, rfl⟩ : ∃ N : Nat, nn = (N : Int) := ⟨nn.toNat, by omega⟩
  rw [Int.toNat_natCast] at hT
  have HT := aside hT
  have HNN := aside (show N ≤ 256 by omega)
  have hmx : (N : Int) ≤ 9223372036854775807 := by omega
  have C1 := aside (fun w (h : OneR br s l p e w) => one_num_at h1 h)
  clear hn h1 hT hn0 hn1
  have z0 := heap_alloc_new w (.cells #[.pointer (some ⟨br, 0, none⟩)] 72)
  have hk0 : Keeps (fun x => x = br) w (w.alloc (.cells #[.pointer (some ⟨br, 0, none⟩)] 72)) := (Keeps.refl (fun x => x = br) w).alloc (.cells #[.pointer (some ⟨br, 0, none⟩)] 72)
  have hr0 := h.keep ((Keeps.refl (fun _ => False) w).alloc (.cells #[.pointer (some ⟨br, 0, none⟩)] 72)) (fun h => h)
  have HBR := aside h.lt
  clear h
  have KB0 := aside z0
  have KK := aside hk0
  have RR := aside hr0
  clear hk0 hr0 z0
  go_enter Try.func81, Try.ntmps81
  go_wp2_with fail
  obtain ⟨i0, hi0⟩ : ∃ i0, w.heap.size = i0 := ⟨_, rfl⟩
  have HN := aside (show w.heap.size ≤ i0 ∧ br ≠ i0 from by have := HBR.out; omega)
  rw [hi0] at ⊢
  rw [hi0] at KB0
  clear hi0
  generalize w.alloc (.cells #[.pointer (some ⟨br, 0, none⟩)] 72) = X0 at KK RR KB0 ⊢
  refine (C1.out _ RR.out).mono ?_
  rintro r w1 ⟨rfl, R1, k1⟩
  replace KB0 := aside ((k1.block i0 (Array.getElem?_eq_some_iff.1 KB0.out).1 (fun h => by have := HN.out; omega)).trans KB0.out)
  replace KK := aside (KK.out.trans k1)
  replace RR := aside R1
  clear k1 R1
  have HSZ := aside (show w.heap.size ≤ i0 from HN.out.1)
  go_wp2
  go_loopw [7, 12] (fun v t wr => ∃ (j n c q : Nat) (a : Option Addr) (f : Int) (acc : List En), v = .slice a n c ∧ t = .int .i64 (j : Int) ∧ j ≤ N ∧ n ≤ j ∧ Hid (wr.ownsRow w.heap.size 50 5 (.slice a n c) n (entCells acc)) ∧ Hid (OneR br s l q f wr) ∧ Hid (wr.heap[i0]? = some (.cells #[.pointer (some ⟨br, 0, none⟩)] 72 (0, 0))) ∧ Hid (Keeps (fun x => x = br) w wr) ∧ Hid (entsSt l (N - j) q f acc = (es, p', e'))) (fun _ t _ => N - (intOf t).toNat)
  case atStart => exact ⟨0, 0, 0, p1, none, e1, [], rfl, rfl, Nat.zero_le _, Nat.le_refl _, ⟨rfl, .inl ⟨rfl, rfl⟩⟩, RR.out, KB0.out, KK.out, HT.out⟩
  case round =>
    clear RR KB0 KK HT
    obtain ⟨j, n, c, q, a, f, acc, rfl, rfl, hj, hnj, OW, RR, KB0, KK, HT⟩ := hrel
    by_cases hlt : (j : Int) < (N : Int)
    · obtain ⟨m, hm⟩ : ∃ m, N - j = m + 1 := ⟨N - j - 1, by omega⟩
      rw [hm] at HT
      rcases hg : getSt l q f with ⟨⟨Rk, Rc, Rn, Rv, Rd⟩, q1, f1⟩
      have C2 := aside (fun w (h : OneR br s l q f w) => rentry_at h hg)
      have HG := aside hg
      have HM := aside hm
      have HJ := aside hj
      have HNJ := aside hnj
      clear hg hm hnj
      go_wp2_with fail
      refine (C2.out _ RR.out).mono ?_
      rintro r w2 ⟨rfl, R1, k1⟩
      replace KB0 := aside ((k1.block i0 (Array.getElem?_eq_some_iff.1 KB0.out).1 (fun h => by have := HN.out; omega)).trans KB0.out)
      have HBL := aside (show ∀ k, Value.ownBlock (.slice a n c) = some k → ¬ k = br from fun k hk e => by have h1 := (OW.out.lt k hk).1; have := HBR.out; omega)
      replace OW := aside (ownsRow_keep OW.out k1 HBL.out)
      replace KK := aside (KK.out.trans k1)
      replace RR := aside R1
      clear k1 R1 C2
      have B2 := aside (bnew w2 (.cells #[.string Rk, .int .i64 Rc, .int .i64 Rn, .string Rv, .bool Rd] 50))
      have K2 := aside (heap_alloc_new w2 (.cells #[.string Rk, .int .i64 Rc, .int .i64 Rn, .string Rv, .bool Rd] 50))
      replace KB0 := aside (blk_on KB0.out B2.out)
      replace OW := aside (own_on OW.out B2.out)
      replace RR := aside (RR.out.keep (Keeps.of_below B2.out (fun _ => False)) (fun h => h))
      replace KK := aside (KK.out.trans (Keeps.of_below B2.out _))
      have HWS := aside (show w.heap.size ≤ w2.heap.size + 1 from by have := KK.out.size; rw [World.size_alloc] at this; exact this)
      go_wp2_with (at_builtin; refine wpList_plain rfl fun K hK => op_append_ent _ _ rfl w.heap.size n (.slice a n c) acc (by rfl) OW.out w2.heap.size 1 ⟨Rk, Rc, Rn, Rv, Rd⟩ (by rfl) K2.out (by have h1 := HNJ.out; have h2 := HJ.out; have h3 := HNN.out; omega) (by rw [World.size_alloc]; exact HWS.out) ?_; intro g cap w3 own3 gr3; refine hK _ _ ?_; refine Hid.out ?_)
      refine aside ?_
      have kg := (Keeps.refl (fun x => Value.ownBlock (.slice a n c) = some x) _).grown gr3 (fun k hk _ => hk)
      replace KB0 := aside ((kg.block i0 (Array.getElem?_eq_some_iff.1 KB0.out).1 (own_nots OW.out KB0.out (by decide))).trans KB0.out)
      replace RR := aside (RR.out.keep kg (fun h => HBL.out br h rfl))
      replace KK := aside (KK.out.grown gr3 (fun k hk h => by have := (OW.out.lt k hk).1; omega))
      replace OW := aside own3
      clear kg gr3 own3 B2 K2 HWS HBL
      have c0_0 : w3.cell? ⟨i0, 0, none⟩ = some (.pointer (some ⟨br, 0, none⟩)) := by rw [cell_of_row _ _ 0 _ _ _ KB0.out]; rfl
      go_wp2_with fail
      refine (one_err_at RR.out).mono ?_
      rintro r w4 ⟨rfl, hw4⟩
      subst hw4
      by_cases hf : f1 = 0
      · subst hf
        go_wp2
        go_roundw
        case rel => exact ⟨j + 1, n + 1, cap, q1, some ⟨g, 0, none⟩, 0, acc ++ [En.mk Rk Rc Rn Rv Rd], rfl, by go_num, by omega, by have := HNJ.out; omega, OW.out, RR.out, KB0.out, KK.out, by rw [show N - (j + 1) = m by have := HM.out; omega]; exact (entsSt_step HG.out).symm.trans HT.out⟩
        case measure => simp [intOf]; omega
      · have hf2 : (f1 != 0) = true := by simpa using hf
        have HE := aside (show ([], q1, f1) = (es, p', e') from by rw [← HT.out, entsSt_stop HG.out hf])
        go_wp2
        go_ret
        have := HE.out
        simp only [Prod.mk.injEq] at this
        obtain ⟨rfl, rfl, rfl⟩ := this
        exact ⟨none, 0, 0, rfl, ⟨rfl, .inl ⟨rfl, rfl⟩⟩, RR.out, KK.out⟩
    · have HE := aside (show (acc, q, f) = (es, p', e') from by rw [← HT.out, show N - j = 0 by omega]; rfl)
      go_wp2
      go_ret
      have := HE.out
      simp only [Prod.mk.injEq] at this
      obtain ⟨rfl, rfl, rfl⟩ := this
      exact ⟨a, n, c, rfl, OW.out, RR.out, KK.out⟩
end Go.Proofs.Ytbnppmkdhnpdfaa

/-
  A frame read by the reader of frames.
  Same of the document's: frames that are the same.
  What is wrong with a frame hangs on its values alone, not on where they lie.
  What MixTurned needs: a place among n; rows of entries that grow and shrink side by side; sums of lists.
  Parts that were read, as a list of parts in memory; what is wrong with them.
  Decode: too many bytes.
  Decode: bytes that are no frame.
  Decode: a frame that may not be.
  Decode: a frame.
  A new writer; the bytes that a writer tells, in new memory (the code's, by slices.Clone); two rows of bytes compared.
-/
import Derived.Test.YtbnppmkdhnpdfaaBw11
import Derived.Deep.CutBlock
import Derived.Deep.DeepCutAuto
import Derived.Test.YtbnppmkdhnpdfaaBw3
import Derived.Maps.AppendAt
import Derived.Test.YtbnppmkdhnpdfaaBw1
namespace Go.Proofs.Ytbnppmkdhnpdfaa
open Go.RowKit
set_option linter.unusedVariables false
theorem RdF.low {w : World} {B C n c : Nat} {a : Option Addr} {P : Nat → Pm} {vs : List PV} (h : RdF w B a n c P vs) (hb : C ≤ B) : RdF w C a n c P vs :=
  ⟨own_low h.row hb, h.len, fun i v hv => by
    obtain ⟨h1, h2, h3, h4, h5, h6, h7, h8, h9⟩ := h.ent i v hv
    exact ⟨h1, h2, h3, h4, h5, h6, h7, h8, own_low h9 hb⟩, h.apart⟩
theorem PartsRd.keep {S : Nat → Prop} {w w' : World} {B n c : Nat} {a : Option Addr} {vs : List PV} (h : PartsRd w B a n c vs) (k : Keeps S w w') (hS : ∀ k, S k → ¬ B ≤ k) : PartsRd w' B a n c vs := by
  obtain ⟨P, hP⟩ := h
  exact ⟨P, hP.keep k hS⟩
theorem PartsRd.on {w w' : World} {B n c : Nat} {a : Option Addr} {vs : List PV} (h : PartsRd w B a n c vs) (b : Below w.heap.size w w') : PartsRd w' B a n c vs := h.keep (Keeps.of_below b (fun _ => False)) (fun k h => h.elim)
theorem PartsRd.low {w : World} {B C n c : Nat} {a : Option Addr} {vs : List PV} (h : PartsRd w B a n c vs) (hb : C ≤ B) : PartsRd w C a n c vs := by
  obtain ⟨P, hP⟩ := h
  exact ⟨P, hP.low hb⟩
set_option maxRecDepth 100000 in
set_option maxHeartbeats 3200000 in
theorem rframe_eq {br : Nat} {s : ByteArray} {l : List UInt8} {w : World} {p1 p2 p3 p4 p5 p6 p7 : Nat} {a b c d f g e1 e2 e3 e4 e5 e6 e7 : Int} {vs : List PV} (h : OneR br s l 0 0 w) (h1 : numSt l 0 0 7 = (a, p1, e1)) (h2 : numSt l p1 e1 7 = (b, p2, e2)) (h3 : numSt l p2 e2 7 = (c, p3, e3)) (h4 : numSt l p3 e3 1048576 = (d, p4, e4)) (h5 : numSt l p4 e4 1048576 = (f, p5, e5)) (h6 : numSt l p5 e5 63 = (g, p6, e6)) (h7 : listSt l p6 e6 = (vs, p7, e7)) :
    Calls Try.prog 34 #[.agg #[.pointer (some ⟨br, 0, none⟩)]] w fun r w' => ∃ pa pn pc, r = .returned (.agg #[.int .i64 a, .int .i64 b, .int .i64 c, .int .i64 d, .int .i64 f, .int .i64 g, .slice pa pn pc]) ∧ PartsRd w' w.heap.size pa pn pc vs ∧ OneR br s l p7 e7 w' ∧ Keeps (fun x => x = br) w w' := by
  have C1 := aside (fun w (h : OneR br s l 0 0 w) => one_num_at h1 h)
  have C2 := aside (fun w (h : OneR br s l p1 e1 w) => one_num_at h2 h)
  have C3 := aside (fun w (h : OneR br s l p2 e2 w) => one_num_at h3 h)
  have C4 := aside (fun w (h : OneR br s l p3 e3 w) => one_num_at h4 h)
  have C5 := aside (fun w (h : OneR br s l p4 e4 w) => one_num_at h5 h)
  have C6 := aside (fun w (h : OneR br s l p5 e5 w) => one_num_at h6 h)
  have C7 := aside (fun w (h : OneR br s l p6 e6 w) => rparts_at h h7)
  clear h1 h2 h3 h4 h5 h6 h7
  have z0 := heap_alloc_new w (.cells #[.pointer (some ⟨br, 0, none⟩)] 72)
  have z1 := heap_alloc_new (w.alloc (.cells #[.pointer (some ⟨br, 0, none⟩)] 72)) (.cells #[.int .i64 0, .int .i64 0, .int .i64 0, .int .i64 0, .int .i64 0, .int .i64 0, .slice none 0 0] 26)
  simp only [World.size_alloc] at z1
  replace z0 := blk_on z0 (bnew _ (.cells #[.int .i64 0, .int .i64 0, .int .i64 0, .int .i64 0, .int .i64 0, .int .i64 0, .slice none 0 0] 26))
  have z2 := heap_alloc_new ((w.alloc (.cells #[.pointer (some ⟨br, 0, none⟩)] 72)).alloc (.cells #[.int .i64 0, .int .i64 0, .int .i64 0, .int .i64 0, .int .i64 0, .int .i64 0, .slice none 0 0] 26)) (.cells #[.int .i64 0, .int .i64 0, .int .i64 0, .int .i64 0, .int .i64 0, .int .i64 0, .slice none 0 0] 26)
  simp only [World.size_alloc] at z2
  replace z0 := blk_on z0 (bnew _ (.cells #[.int .i64 0, .int .i64 0, .int .i64 0, .int .i64 0, .int .i64 0, .int .i64 0, .slice none 0 0] 26))
  replace z1 := blk_on z1 (bnew _ (.cells #[.int .i64 0, .int .i64 0, .int .i64 0, .int .i64 0, .int .i64 0, .int .i64 0, .slice none 0 0] 26))
  have hk0 : Keeps (fun x => x = br) w (((w.alloc (.cells #[.pointer (some ⟨br, 0, none⟩)] 72)).alloc (.cells #[.int .i64 0, .int .i64 0, .int .i64 0, .int .i64 0, .int .i64 0, .int .i64 0, .slice none 0 0] 26)).alloc (.cells #[.int .i64 0, .int .i64 0, .int .i64 0, .int .i64 0, .int .i64 0, .int .i64 0, .slice none 0 0] 26)) := (((Keeps.refl (fun x => x = br) w).alloc (.cells #[.pointer (some ⟨br, 0, none⟩)] 72)).alloc (.cells #[.int .i64 0, .int .i64 0, .int .i64 0, .int .i64 0, .int .i64 0, .int .i64 0, .slice none 0 0] 26)).alloc (.cells #[.int .i64 0, .int .i64 0, .int .i64 0, .int .i64 0, .int .i64 0, .int .i64 0, .slice none 0 0] 26)
  have hr0 := h.keep ((((Keeps.refl (fun _ => False) w).alloc (.cells #[.pointer (some ⟨br, 0, none⟩)] 72)).alloc (.cells #[.int .i64 0, .int .i64 0, .int .i64 0, .int .i64 0, .int .i64 0, .int .i64 0, .slice none 0 0] 26)).alloc (.cells #[.int .i64 0, .int .i64 0, .int .i64 0, .int .i64 0, .int .i64 0, .int .i64 0, .slice none 0 0] 26)) (fun h => h)
  have HBR := aside h.lt
  clear h
  have KB0 := aside z0
  have KB1 := aside z1
  have KB2 := aside z2
  have KK := aside hk0
  have RR := aside hr0
  clear hk0 hr0 z0 z1 z2
  go_enter Try.func34, Try.ntmps34
  go_wp2_with fail
  obtain ⟨i0, hi0⟩ : ∃ i0, w.heap.size = i0 := ⟨_, rfl⟩
  obtain ⟨i1, hi1⟩ : ∃ i1, i0 + 1 = i1 := ⟨_, rfl⟩
  obtain ⟨i2, hi2⟩ : ∃ i2, i1 + 1 = i2 := ⟨_, rfl⟩
  have HN := aside (show w.heap.size ≤ i0 ∧ br ≠ i0 ∧ w.heap.size ≤ i1 ∧ br ≠ i1 ∧ w.heap.size ≤ i2 ∧ br ≠ i2 ∧ i0 ≠ i1 ∧ i0 ≠ i2 ∧ i1 ≠ i0 ∧ i1 ≠ i2 ∧ i2 ≠ i0 ∧ i2 ≠ i1 from by have := HBR.out; omega)
  rw [hi0, hi1, hi2] at ⊢
  rw [hi0] at KB0
  rw [hi0, hi1] at KB1
  rw [hi0, hi1, hi2] at KB2
  clear hi0 hi1 hi2
  generalize ((w.alloc (.cells #[.pointer (some ⟨br, 0, none⟩)] 72)).alloc (.cells #[.int .i64 0, .int .i64 0, .int .i64 0, .int .i64 0, .int .i64 0, .int .i64 0, .slice none 0 0] 26)).alloc (.cells #[.int .i64 0, .int .i64 0, .int .i64 0, .int .i64 0, .int .i64 0, .int .i64 0, .slice none 0 0] 26) = X0 at KK RR KB0 KB1 KB2 ⊢
  refine (C1.out _ RR.out).mono ?_
  rintro r w1 ⟨rfl, R1, k1⟩
  replace KB0 := aside ((k1.block i0 (Array.getElem?_eq_some_iff.1 KB0.out).1 (fun h => by have := HN.out; omega)).trans KB0.out)
  replace KB1 := aside ((k1.block i1 (Array.getElem?_eq_some_iff.1 KB1.out).1 (fun h => by have := HN.out; omega)).trans KB1.out)
  replace KB2 := aside ((k1.block i2 (Array.getElem?_eq_some_iff.1 KB2.out).1 (fun h => by have := HN.out; omega)).trans KB2.out)
  replace KK := aside (KK.out.trans k1)
  replace RR := aside R1
  clear k1 R1
  have c2_0 : w1.cell? ⟨i2, 0, none⟩ = some (.int .i64 0) := by rw [cell_of_row _ _ 0 _ _ _ KB2.out]; rfl
  have f2_0 := frozen_of_row _ _ 0 _ _ KB2.out
  have c2_1 : w1.cell? ⟨i2, 1, none⟩ = some (.int .i64 0) := by rw [cell_of_row _ _ 1 _ _ _ KB2.out]; rfl
  have f2_1 := frozen_of_row _ _ 1 _ _ KB2.out
  have c2_2 : w1.cell? ⟨i2, 2, none⟩ = some (.int .i64 0) := by rw [cell_of_row _ _ 2 _ _ _ KB2.out]; rfl
  have f2_2 := frozen_of_row _ _ 2 _ _ KB2.out
  have c2_3 : w1.cell? ⟨i2, 3, none⟩ = some (.int .i64 0) := by rw [cell_of_row _ _ 3 _ _ _ KB2.out]; rfl
  have f2_3 := frozen_of_row _ _ 3 _ _ KB2.out
  have c2_4 : w1.cell? ⟨i2, 4, none⟩ = some (.int .i64 0) := by rw [cell_of_row _ _ 4 _ _ _ KB2.out]; rfl
  have f2_4 := frozen_of_row _ _ 4 _ _ KB2.out
  have c2_5 : w1.cell? ⟨i2, 5, none⟩ = some (.int .i64 0) := by rw [cell_of_row _ _ 5 _ _ _ KB2.out]; rfl
  have f2_5 := frozen_of_row _ _ 5 _ _ KB2.out
  have c2_6 : w1.cell? ⟨i2, 6, none⟩ = some (.slice none 0 0) := by rw [cell_of_row _ _ 6 _ _ _ KB2.out]; rfl
  have f2_6 := frozen_of_row _ _ 6 _ _ KB2.out
  go_upto_region 3 with fail
  clear c2_0 f2_0 c2_1 f2_1 c2_2 f2_2 c2_3 f2_3 c2_4 f2_4 c2_5 f2_5 c2_6 f2_6
  have sk := ((Keeps.refl (fun x => x = i2) w1).setCell (p := ⟨i2, 0, none⟩) (fun _ => rfl) (.int .i64 a))
  replace KB0 := aside ((sk.block i0 (Array.getElem?_eq_some_iff.1 KB0.out).1 (fun h => by have := HN.out; omega)).trans KB0.out)
  replace KB1 := aside ((sk.block i1 (Array.getElem?_eq_some_iff.1 KB1.out).1 (fun h => by have := HN.out; omega)).trans KB1.out)
  have kz := (heap_setCell_same _ i2 0 _ _ (.int .i64 a) KB2.out)
  simp only [List.setIfInBounds_toArray, List.set_cons_zero] at kz
  replace KB2 := aside kz
  replace RR := aside (RR.out.keep sk (fun h => by have := HN.out; omega))
  replace KK := aside (KK.out.setCell (p := ⟨i2, 0, none⟩) (fun h => by have := HN.out; simp only at h; omega) (.int .i64 a))
  clear sk kz
  generalize w1.setCell ⟨i2, 0, none⟩ (.int .i64 a) = X2 at KK RR KB0 KB1 KB2  ⊢
  have c0_0 : X2.cell? ⟨i0, 0, none⟩ = some (.pointer (some ⟨br, 0, none⟩)) := by rw [cell_of_row _ _ 0 _ _ _ KB0.out]; rfl
  go_wp2_with fail
  refine (C2.out _ RR.out).mono ?_
  rintro r w3 ⟨rfl, R1, k1⟩
  clear c0_0
  replace KB0 := aside ((k1.block i0 (Array.getElem?_eq_some_iff.1 KB0.out).1 (fun h => by have := HN.out; omega)).trans KB0.out)
  replace KB1 := aside ((k1.block i1 (Array.getElem?_eq_some_iff.1 KB1.out).1 (fun h => by have := HN.out; omega)).trans KB1.out)
  replace KB2 := aside ((k1.block i2 (Array.getElem?_eq_some_iff.1 KB2.out).1 (fun h => by have := HN.out; omega)).trans KB2.out)
  replace KK := aside (KK.out.trans k1)
  replace RR := aside R1
  clear k1 R1
  have c2_0 : w3.cell? ⟨i2, 0, none⟩ = some (.int .i64 a) := by rw [cell_of_row _ _ 0 _ _ _ KB2.out]; rfl
  have f2_0 := frozen_of_row _ _ 0 _ _ KB2.out
  have c2_1 : w3.cell? ⟨i2, 1, none⟩ = some (.int .i64 0) := by rw [cell_of_row _ _ 1 _ _ _ KB2.out]; rfl
  have f2_1 := frozen_of_row _ _ 1 _ _ KB2.out
  have c2_2 : w3.cell? ⟨i2, 2, none⟩ = some (.int .i64 0) := by rw [cell_of_row _ _ 2 _ _ _ KB2.out]; rfl
  have f2_2 := frozen_of_row _ _ 2 _ _ KB2.out
  have c2_3 : w3.cell? ⟨i2, 3, none⟩ = some (.int .i64 0) := by rw [cell_of_row _ _ 3 _ _ _ KB2.out]; rfl
  have f2_3 := frozen_of_row _ _ 3 _ _ KB2.out
  have c2_4 : w3.cell? ⟨i2, 4, none⟩ = some (.int .i64 0) := by rw [cell_of_row _ _ 4 _ _ _ KB2.out]; rfl
  have f2_4 := frozen_of_row _ _ 4 _ _ KB2.out
  have c2_5 : w3.cell? ⟨i2, 5, none⟩ = some (.int .i64 0) := by rw [cell_of_row _ _ 5 _ _ _ KB2.out]; rfl
  have f2_5 := frozen_of_row _ _ 5 _ _ KB2.out
  have c2_6 : w3.cell? ⟨i2, 6, none⟩ = some (.slice none 0 0) := by rw [cell_of_row _ _ 6 _ _ _ KB2.out]; rfl
  have f2_6 := frozen_of_row _ _ 6 _ _ KB2.out
  go_upto_region 4 with fail
  clear c2_0 f2_0 c2_1 f2_1 c2_2 f2_2 c2_3 f2_3 c2_4 f2_4 c2_5 f2_5 c2_6 f2_6
  have sk := ((Keeps.refl (fun x => x = i2) w3).setCell (p := ⟨i2, 1, none⟩) (fun _ => rfl) (.int .i64 b))
  replace KB0 := aside ((sk.block i0 (Array.getElem?_eq_some_iff.1 KB0.out).1 (fun h => by have := HN.out; omega)).trans KB0.out)
  replace KB1 := aside ((sk.block i1 (Array.getElem?_eq_some_iff.1 KB1.out).1 (fun h => by have := HN.out; omega)).trans KB1.out)
  have kz := (heap_setCell_same _ i2 1 _ _ (.int .i64 b) KB2.out)
  simp only [List.setIfInBounds_toArray, List.set_cons_zero, List.set_cons_succ] at kz
  replace KB2 := aside kz
  replace RR := aside (RR.out.keep sk (fun h => by have := HN.out; omega))
  replace KK := aside (KK.out.setCell (p := ⟨i2, 1, none⟩) (fun h => by have := HN.out; simp only at h; omega) (.int .i64 b))
  clear sk kz
  generalize w3.setCell ⟨i2, 1, none⟩ (.int .i64 b) = X4 at KK RR KB0 KB1 KB2  ⊢
  have c0_0 : X4.cell? ⟨i0, 0, none⟩ = some (.pointer (some ⟨br, 0, none⟩)) := by rw [cell_of_row _ _ 0 _ _ _ KB0.out]; rfl
  go_wp2_with fail
  refine (C3.out _ RR.out).mono ?_
  rintro r w5 ⟨rfl, R1, k1⟩
  clear c0_0
  replace KB0 := aside ((k1.block i0 (Array.getElem?_eq_some_iff.1 KB0.out).1 (fun h => by have := HN.out; omega)).trans KB0.out)
  replace KB1 := aside ((k1.block i1 (Array.getElem?_eq_some_iff.1 KB1.out).1 (fun h => by have := HN.out; omega)).trans KB1.out)
  replace KB2 := aside ((k1.block i2 (Array.getElem?_eq_some_iff.1 KB2.out).1 (fun h => by have := HN.out; omega)).trans KB2.out)
  replace KK := aside (KK.out.trans k1)
  replace RR := aside R1
  clear k1 R1
  have c2_0 : w5.cell? ⟨i2, 0, none⟩ = some (.int .i64 a) := by rw [cell_of_row _ _ 0 _ _ _ KB2.out]; rfl
  have f2_0 := frozen_of_row _ _ 0 _ _ KB2.out
  have c2_1 : w5.cell? ⟨i2, 1, none⟩ = some (.int .i64 b) := by rw [cell_of_row _ _ 1 _ _ _ KB2.out]; rfl
  have f2_1 := frozen_of_row _ _ 1 _ _ KB2.out
  have c2_2 : w5.cell? ⟨i2, 2, none⟩ = some (.int .i64 0) := by rw [cell_of_row _ _ 2 _ _ _ KB2.out]; rfl
  have f2_2 := frozen_of_row _ _ 2 _ _ KB2.out
  have c2_3 : w5.cell? ⟨i2, 3, none⟩ = some (.int .i64 0) := by rw [cell_of_row _ _ 3 _ _ _ KB2.out]; rfl
  have f2_3 := frozen_of_row _ _ 3 _ _ KB2.out
  have c2_4 : w5.cell? ⟨i2, 4, none⟩ = some (.int .i64 0) := by rw [cell_of_row _ _ 4 _ _ _ KB2.out]; rfl
  have f2_4 := frozen_of_row _ _ 4 _ _ KB2.out
  have c2_5 : w5.cell? ⟨i2, 5, none⟩ = some (.int .i64 0) := by rw [cell_of_row _ _ 5 _ _ _ KB2.out]; rfl
  have f2_5 := frozen_of_row _ _ 5 _ _ KB2.out
  have c2_6 : w5.cell? ⟨i2, 6, none⟩ = some (.slice none 0 0) := by rw [cell_of_row _ _ 6 _ _ _ KB2.out]; rfl
  have f2_6 := frozen_of_row _ _ 6 _ _ KB2.out
  go_upto_region 5 with fail
  clear c2_0 f2_0 c2_1 f2_1 c2_2 f2_2 c2_3 f2_3 c2_4 f2_4 c2_5 f2_5 c2_6 f2_6
  have sk := ((Keeps.refl (fun x => x = i2) w5).setCell (p := ⟨i2, 2, none⟩) (fun _ => rfl) (.int .i64 c))
  replace KB0 := aside ((sk.block i0 (Array.getElem?_eq_some_iff.1 KB0.out).1 (fun h => by have := HN.out; omega)).trans KB0.out)
  replace KB1 := aside ((sk.block i1 (Array.getElem?_eq_some_iff.1 KB1.out).1 (fun h => by have := HN.out; omega)).trans KB1.out)
  have kz := (heap_setCell_same _ i2 2 _ _ (.int .i64 c) KB2.out)
  simp only [List.setIfInBounds_toArray, List.set_cons_zero, List.set_cons_succ] at kz
  replace KB2 := aside kz
  replace RR := aside (RR.out.keep sk (fun h => by have := HN.out; omega))
  replace KK := aside (KK.out.setCell (p := ⟨i2, 2, none⟩) (fun h => by have := HN.out; simp only at h; omega) (.int .i64 c))
  clear sk kz
  generalize w5.setCell ⟨i2, 2, none⟩ (.int .i64 c) = X6 at KK RR KB0 KB1 KB2  ⊢
  have c0_0 : X6.cell? ⟨i0, 0, none⟩ = some (.pointer (some ⟨br, 0, none⟩)) := by rw [cell_of_row _ _ 0 _ _ _ KB0.out]; rfl
  go_wp2_with fail
  refine (C4.out _ RR.out).mono ?_
  rintro r w7 ⟨rfl, R1, k1⟩
  clear c0_0
  replace KB0 := aside ((k1.block i0 (Array.getElem?_eq_some_iff.1 KB0.out).1 (fun h => by have := HN.out; omega)).trans KB0.out)
  replace KB1 := aside ((k1.block i1 (Array.getElem?_eq_some_iff.1 KB1.out).1 (fun h => by have := HN.out; omega)).trans KB1.out)
  replace KB2 := aside ((k1.block i2 (Array.getElem?_eq_some_iff.1 KB2.out).1 (fun h => by have := HN.out; omega)).trans KB2.out)
  replace KK := aside (KK.out.trans k1)
  replace RR := aside R1
  clear k1 R1
  have c2_0 : w7.cell? ⟨i2, 0, none⟩ = some (.int .i64 a) := by rw [cell_of_row _ _ 0 _ _ _ KB2.out]; rfl
  have f2_0 := frozen_of_row _ _ 0 _ _ KB2.out
  have c2_1 : w7.cell? ⟨i2, 1, none⟩ = some (.int .i64 b) := by rw [cell_of_row _ _ 1 _ _ _ KB2.out]; rfl
  have f2_1 := frozen_of_row _ _ 1 _ _ KB2.out
  have c2_2 : w7.cell? ⟨i2, 2, none⟩ = some (.int .i64 c) := by rw [cell_of_row _ _ 2 _ _ _ KB2.out]; rfl
  have f2_2 := frozen_of_row _ _ 2 _ _ KB2.out
  have c2_3 : w7.cell? ⟨i2, 3, none⟩ = some (.int .i64 0) := by rw [cell_of_row _ _ 3 _ _ _ KB2.out]; rfl
  have f2_3 := frozen_of_row _ _ 3 _ _ KB2.out
  have c2_4 : w7.cell? ⟨i2, 4, none⟩ = some (.int .i64 0) := by rw [cell_of_row _ _ 4 _ _ _ KB2.out]; rfl
  have f2_4 := frozen_of_row _ _ 4 _ _ KB2.out
  have c2_5 : w7.cell? ⟨i2, 5, none⟩ = some (.int .i64 0) := by rw [cell_of_row _ _ 5 _ _ _ KB2.out]; rfl
  have f2_5 := frozen_of_row _ _ 5 _ _ KB2.out
  have c2_6 : w7.cell? ⟨i2, 6, none⟩ = some (.slice none 0 0) := by rw [cell_of_row _ _ 6 _ _ _ KB2.out]; rfl
  have f2_6 := frozen_of_row _ _ 6 _ _ KB2.out
  go_upto_region 6 with fail
  clear c2_0 f2_0 c2_1 f2_1 c2_2 f2_2 c2_3 f2_3 c2_4 f2_4 c2_5 f2_5 c2_6 f2_6
  have sk := ((Keeps.refl (fun x => x = i2) w7).setCell (p := ⟨i2, 3, none⟩) (fun _ => rfl) (.int .i64 d))
  replace KB0 := aside ((sk.block i0 (Array.getElem?_eq_some_iff.1 KB0.out).1 (fun h => by have := HN.out; omega)).trans KB0.out)
  replace KB1 := aside ((sk.block i1 (Array.getElem?_eq_some_iff.1 KB1.out).1 (fun h => by have := HN.out; omega)).trans KB1.out)
  have kz := (heap_setCell_same _ i2 3 _ _ (.int .i64 d) KB2.out)
  simp only [List.setIfInBounds_toArray, List.set_cons_zero, List.set_cons_succ] at kz
  replace KB2 := aside kz
  replace RR := aside (RR.out.keep sk (fun h => by have := HN.out; omega))
  replace KK := aside (KK.out.setCell (p := ⟨i2, 3, none⟩) (fun h => by have := HN.out; simp only at h; omega) (.int .i64 d))
  clear sk kz
  generalize w7.setCell ⟨i2, 3, none⟩ (.int .i64 d) = X8 at KK RR KB0 KB1 KB2  ⊢
  have c0_0 : X8.cell? ⟨i0, 0, none⟩ = some (.pointer (some ⟨br, 0, none⟩)) := by rw [cell_of_row _ _ 0 _ _ _ KB0.out]; rfl
  go_wp2_with fail
  refine (C5.out _ RR.out).mono ?_
  rintro r w9 ⟨rfl, R1, k1⟩
  clear c0_0
  replace KB0 := aside ((k1.block i0 (Array.getElem?_eq_some_iff.1 KB0.out).1 (fun h => by have := HN.out; omega)).trans KB0.out)
  replace KB1 := aside ((k1.block i1 (Array.getElem?_eq_some_iff.1 KB1.out).1 (fun h => by have := HN.out; omega)).trans KB1.out)
  replace KB2 := aside ((k1.block i2 (Array.getElem?_eq_some_iff.1 KB2.out).1 (fun h => by have := HN.out; omega)).trans KB2.out)
  replace KK := aside (KK.out.trans k1)
  replace RR := aside R1
  clear k1 R1
  have c2_0 : w9.cell? ⟨i2, 0, none⟩ = some (.int .i64 a) := by rw [cell_of_row _ _ 0 _ _ _ KB2.out]; rfl
  have f2_0 := frozen_of_row _ _ 0 _ _ KB2.out
  have c2_1 : w9.cell? ⟨i2, 1, none⟩ = some (.int .i64 b) := by rw [cell_of_row _ _ 1 _ _ _ KB2.out]; rfl
  have f2_1 := frozen_of_row _ _ 1 _ _ KB2.out
  have c2_2 : w9.cell? ⟨i2, 2, none⟩ = some (.int .i64 c) := by rw [cell_of_row _ _ 2 _ _ _ KB2.out]; rfl
  have f2_2 := frozen_of_row _ _ 2 _ _ KB2.out
  have c2_3 : w9.cell? ⟨i2, 3, none⟩ = some (.int .i64 d) := by rw [cell_of_row _ _ 3 _ _ _ KB2.out]; rfl
  have f2_3 := frozen_of_row _ _ 3 _ _ KB2.out
  have c2_4 : w9.cell? ⟨i2, 4, none⟩ = some (.int .i64 0) := by rw [cell_of_row _ _ 4 _ _ _ KB2.out]; rfl
  have f2_4 := frozen_of_row _ _ 4 _ _ KB2.out
  have c2_5 : w9.cell? ⟨i2, 5, none⟩ = some (.int .i64 0) := by rw [cell_of_row _ _ 5 _ _ _ KB2.out]; rfl
  have f2_5 := frozen_of_row _ _ 5 _ _ KB2.out
  have c2_6 : w9.cell? ⟨i2, 6, none⟩ = some (.slice none 0 0) := by rw [cell_of_row _ _ 6 _ _ _ KB2.out]; rfl
  have f2_6 := frozen_of_row _ _ 6 _ _ KB2.out
  go_upto_region 7 with fail
  clear c2_0 f2_0 c2_1 f2_1 c2_2 f2_2 c2_3 f2_3 c2_4 f2_4 c2_5 f2_5 c2_6 f2_6
  have sk := ((Keeps.refl (fun x => x = i2) w9).setCell (p := ⟨i2, 4, none⟩) (fun _ => rfl) (.int .i64 f))
  replace KB0 := aside ((sk.block i0 (Array.getElem?_eq_some_iff.1 KB0.out).1 (fun h => by have := HN.out; omega)).trans KB0.out)
  replace KB1 := aside ((sk.block i1 (Array.getElem?_eq_some_iff.1 KB1.out).1 (fun h => by have := HN.out; omega)).trans KB1.out)
  have kz := (heap_setCell_same _ i2 4 _ _ (.int .i64 f) KB2.out)
  simp only [List.setIfInBounds_toArray, List.set_cons_zero, List.set_cons_succ] at kz
  replace KB2 := aside kz
  replace RR := aside (RR.out.keep sk (fun h => by have := HN.out; omega))
  replace KK := aside (KK.out.setCell (p := ⟨i2, 4, none⟩) (fun h => by have := HN.out; simp only at h; omega) (.int .i64 f))
  clear sk kz
  generalize w9.setCell ⟨i2, 4, none⟩ (.int .i64 f) = X10 at KK RR KB0 KB1 KB2  ⊢
  have c0_0 : X10.cell? ⟨i0, 0, none⟩ = some (.pointer (some ⟨br, 0, none⟩)) := by rw [cell_of_row _ _ 0 _ _ _ KB0.out]; rfl
  go_wp2_with fail
  refine (C6.out _ RR.out).mono ?_
  rintro r w11 ⟨rfl, R1, k1⟩
  clear c0_0
  replace KB0 := aside ((k1.block i0 (Array.getElem?_eq_some_iff.1 KB0.out).1 (fun h => by have := HN.out; omega)).trans KB0.out)
  replace KB1 := aside ((k1.block i1 (Array.getElem?_eq_some_iff.1 KB1.out).1 (fun h => by have := HN.out; omega)).trans KB1.out)
  replace KB2 := aside ((k1.block i2 (Array.getElem?_eq_some_iff.1 KB2.out).1 (fun h => by have := HN.out; omega)).trans KB2.out)
  replace KK := aside (KK.out.trans k1)
  replace RR := aside R1
  clear k1 R1
  have c2_0 : w11.cell? ⟨i2, 0, none⟩ = some (.int .i64 a) := by rw [cell_of_row _ _ 0 _ _ _ KB2.out]; rfl
  have f2_0 := frozen_of_row _ _ 0 _ _ KB2.out
  have c2_1 : w11.cell? ⟨i2, 1, none⟩ = some (.int .i64 b) := by rw [cell_of_row _ _ 1 _ _ _ KB2.out]; rfl
  have f2_1 := frozen_of_row _ _ 1 _ _ KB2.out
  have c2_2 : w11.cell? ⟨i2, 2, none⟩ = some (.int .i64 c) := by rw [cell_of_row _ _ 2 _ _ _ KB2.out]; rfl
  have f2_2 := frozen_of_row _ _ 2 _ _ KB2.out
  have c2_3 : w11.cell? ⟨i2, 3, none⟩ = some (.int .i64 d) := by rw [cell_of_row _ _ 3 _ _ _ KB2.out]; rfl
  have f2_3 := frozen_of_row _ _ 3 _ _ KB2.out
  have c2_4 : w11.cell? ⟨i2, 4, none⟩ = some (.int .i64 f) := by rw [cell_of_row _ _ 4 _ _ _ KB2.out]; rfl
  have f2_4 := frozen_of_row _ _ 4 _ _ KB2.out
  have c2_5 : w11.cell? ⟨i2, 5, none⟩ = some (.int .i64 0) := by rw [cell_of_row _ _ 5 _ _ _ KB2.out]; rfl
  have f2_5 := frozen_of_row _ _ 5 _ _ KB2.out
  have c2_6 : w11.cell? ⟨i2, 6, none⟩ = some (.slice none 0 0) := by rw [cell_of_row _ _ 6 _ _ _ KB2.out]; rfl
  have f2_6 := frozen_of_row _ _ 6 _ _ KB2.out
  go_upto_region 8 with fail
  clear c2_0 f2_0 c2_1 f2_1 c2_2 f2_2 c2_3 f2_3 c2_4 f2_4 c2_5 f2_5 c2_6 f2_6
  have sk := ((Keeps.refl (fun x => x = i2) w11).setCell (p := ⟨i2, 5, none⟩) (fun _ => rfl) (.int .i64 g))
  replace KB0 := aside ((sk.block i0 (Array.getElem?_eq_some_iff.1 KB0.out).1 (fun h => by have := HN.out; omega)).trans KB0.out)
  replace KB1 := aside ((sk.block i1 (Array.getElem?_eq_some_iff.1 KB1.out).1 (fun h => by have := HN.out; omega)).trans KB1.out)
  have kz := (heap_setCell_same _ i2 5 _ _ (.int .i64 g) KB2.out)
  simp only [List.setIfInBounds_toArray, List.set_cons_zero, List.set_cons_succ] at kz
  replace KB2 := aside kz
  replace RR := aside (RR.out.keep sk (fun h => by have := HN.out; omega))
  replace KK := aside (KK.out.setCell (p := ⟨i2, 5, none⟩) (fun h => by have := HN.out; simp only at h; omega) (.int .i64 g))
  clear sk kz
  generalize w11.setCell ⟨i2, 5, none⟩ (.int .i64 g) = X12 at KK RR KB0 KB1 KB2  ⊢
  have c0_0 : X12.cell? ⟨i0, 0, none⟩ = some (.pointer (some ⟨br, 0, none⟩)) := by rw [cell_of_row _ _ 0 _ _ _ KB0.out]; rfl
  go_wp2_with fail
  have HBX := aside (show w.heap.size ≤ X12.heap.size ∧ i1 < X12.heap.size ∧ i2 < X12.heap.size from ⟨KK.out.size, (Array.getElem?_eq_some_iff.1 KB1.out).1, (Array.getElem?_eq_some_iff.1 KB2.out).1⟩)
  refine (C7.out _ RR.out).mono ?_
  rintro r w13 ⟨pa, pn, pc, rfl, PR1, R1, k1⟩
  clear c0_0
  replace KB0 := aside ((k1.block i0 (Array.getElem?_eq_some_iff.1 KB0.out).1 (fun h => by have := HN.out; omega)).trans KB0.out)
  replace KB1 := aside ((k1.block i1 (Array.getElem?_eq_some_iff.1 KB1.out).1 (fun h => by have := HN.out; omega)).trans KB1.out)
  replace KB2 := aside ((k1.block i2 (Array.getElem?_eq_some_iff.1 KB2.out).1 (fun h => by have := HN.out; omega)).trans KB2.out)
  replace KK := aside (KK.out.trans k1)
  replace RR := aside R1
  clear k1 R1
  have PR := aside PR1
  clear PR1
  have c2_0 : w13.cell? ⟨i2, 0, none⟩ = some (.int .i64 a) := by rw [cell_of_row _ _ 0 _ _ _ KB2.out]; rfl
  have f2_0 := frozen_of_row _ _ 0 _ _ KB2.out
  have c2_1 : w13.cell? ⟨i2, 1, none⟩ = some (.int .i64 b) := by rw [cell_of_row _ _ 1 _ _ _ KB2.out]; rfl
  have f2_1 := frozen_of_row _ _ 1 _ _ KB2.out
  have c2_2 : w13.cell? ⟨i2, 2, none⟩ = some (.int .i64 c) := by rw [cell_of_row _ _ 2 _ _ _ KB2.out]; rfl
  have f2_2 := frozen_of_row _ _ 2 _ _ KB2.out
  have c2_3 : w13.cell? ⟨i2, 3, none⟩ = some (.int .i64 d) := by rw [cell_of_row _ _ 3 _ _ _ KB2.out]; rfl
  have f2_3 := frozen_of_row _ _ 3 _ _ KB2.out
  have c2_4 : w13.cell? ⟨i2, 4, none⟩ = some (.int .i64 f) := by rw [cell_of_row _ _ 4 _ _ _ KB2.out]; rfl
  have f2_4 := frozen_of_row _ _ 4 _ _ KB2.out
  have c2_5 : w13.cell? ⟨i2, 5, none⟩ = some (.int .i64 g) := by rw [cell_of_row _ _ 5 _ _ _ KB2.out]; rfl
  have f2_5 := frozen_of_row _ _ 5 _ _ KB2.out
  have c2_6 : w13.cell? ⟨i2, 6, none⟩ = some (.slice none 0 0) := by rw [cell_of_row _ _ 6 _ _ _ KB2.out]; rfl
  have f2_6 := frozen_of_row _ _ 6 _ _ KB2.out
  go_upto_region 9 with fail
  clear c2_0 f2_0 c2_1 f2_1 c2_2 f2_2 c2_3 f2_3 c2_4 f2_4 c2_5 f2_5 c2_6 f2_6
  have sk := ((Keeps.refl (fun x => x = i2) w13).setCell (p := ⟨i2, 6, none⟩) (fun _ => rfl) (.slice pa pn pc))
  replace KB0 := aside ((sk.block i0 (Array.getElem?_eq_some_iff.1 KB0.out).1 (fun h => by have := HN.out; omega)).trans KB0.out)
  replace KB1 := aside ((sk.block i1 (Array.getElem?_eq_some_iff.1 KB1.out).1 (fun h => by have := HN.out; omega)).trans KB1.out)
  replace PR := aside (PR.out.keep sk (fun k e h => by have := HBX.out; omega))
  have kz := (heap_setCell_same _ i2 6 _ _ (.slice pa pn pc) KB2.out)
  simp only [List.setIfInBounds_toArray, List.set_cons_zero, List.set_cons_succ] at kz
  replace KB2 := aside kz
  replace RR := aside (RR.out.keep sk (fun h => by have := HN.out; omega))
  replace KK := aside (KK.out.setCell (p := ⟨i2, 6, none⟩) (fun h => by have := HN.out; simp only at h; omega) (.slice pa pn pc))
  clear sk kz
  generalize w13.setCell ⟨i2, 6, none⟩ (.slice pa pn pc) = X14 at KK RR KB0 KB1 KB2 PR ⊢
  have c2_0 : X14.cell? ⟨i2, 0, none⟩ = some (.int .i64 a) := by rw [cell_of_row _ _ 0 _ _ _ KB2.out]; rfl
  have c2_1 : X14.cell? ⟨i2, 1, none⟩ = some (.int .i64 b) := by rw [cell_of_row _ _ 1 _ _ _ KB2.out]; rfl
  have c2_2 : X14.cell? ⟨i2, 2, none⟩ = some (.int .i64 c) := by rw [cell_of_row _ _ 2 _ _ _ KB2.out]; rfl
  have c2_3 : X14.cell? ⟨i2, 3, none⟩ = some (.int .i64 d) := by rw [cell_of_row _ _ 3 _ _ _ KB2.out]; rfl
  have c2_4 : X14.cell? ⟨i2, 4, none⟩ = some (.int .i64 f) := by rw [cell_of_row _ _ 4 _ _ _ KB2.out]; rfl
  have c2_5 : X14.cell? ⟨i2, 5, none⟩ = some (.int .i64 g) := by rw [cell_of_row _ _ 5 _ _ _ KB2.out]; rfl
  have c2_6 : X14.cell? ⟨i2, 6, none⟩ = some (.slice pa pn pc) := by rw [cell_of_row _ _ 6 _ _ _ KB2.out]; rfl
  have c1_0 : X14.cell? ⟨i1, 0, none⟩ = some (.int .i64 0) := by rw [cell_of_row _ _ 0 _ _ _ KB1.out]; rfl
  have f1_0 := frozen_of_row _ _ 0 _ _ KB1.out
  have c1_1 : X14.cell? ⟨i1, 1, none⟩ = some (.int .i64 0) := by rw [cell_of_row _ _ 1 _ _ _ KB1.out]; rfl
  have f1_1 := frozen_of_row _ _ 1 _ _ KB1.out
  have c1_2 : X14.cell? ⟨i1, 2, none⟩ = some (.int .i64 0) := by rw [cell_of_row _ _ 2 _ _ _ KB1.out]; rfl
  have f1_2 := frozen_of_row _ _ 2 _ _ KB1.out
  have c1_3 : X14.cell? ⟨i1, 3, none⟩ = some (.int .i64 0) := by rw [cell_of_row _ _ 3 _ _ _ KB1.out]; rfl
  have f1_3 := frozen_of_row _ _ 3 _ _ KB1.out
  have c1_4 : X14.cell? ⟨i1, 4, none⟩ = some (.int .i64 0) := by rw [cell_of_row _ _ 4 _ _ _ KB1.out]; rfl
  have f1_4 := frozen_of_row _ _ 4 _ _ KB1.out
  have c1_5 : X14.cell? ⟨i1, 5, none⟩ = some (.int .i64 0) := by rw [cell_of_row _ _ 5 _ _ _ KB1.out]; rfl
  have f1_5 := frozen_of_row _ _ 5 _ _ KB1.out
  have c1_6 : X14.cell? ⟨i1, 6, none⟩ = some (.slice none 0 0) := by rw [cell_of_row _ _ 6 _ _ _ KB1.out]; rfl
  have f1_6 := frozen_of_row _ _ 6 _ _ KB1.out
  have SK := aside (((((((((Keeps.refl (fun x => x = i1) X14).setCell (p := ⟨i1, 0, none⟩) (fun _ => rfl) (.int .i64 a)).setCell (p := ⟨i1, 1, none⟩) (fun _ => rfl) (.int .i64 b)).setCell (p := ⟨i1, 2, none⟩) (fun _ => rfl) (.int .i64 c)).setCell (p := ⟨i1, 3, none⟩) (fun _ => rfl) (.int .i64 d)).setCell (p := ⟨i1, 4, none⟩) (fun _ => rfl) (.int .i64 f)).setCell (p := ⟨i1, 5, none⟩) (fun _ => rfl) (.int .i64 g)).setCell (p := ⟨i1, 6, none⟩) (fun _ => rfl) (.slice pa pn pc)))
  have KF := aside ((((((((KK.out.setCell (p := ⟨i1, 0, none⟩) (fun h => by have := HN.out; simp only at h; omega) (.int .i64 a)).setCell (p := ⟨i1, 1, none⟩) (fun h => by have := HN.out; simp only at h; omega) (.int .i64 b)).setCell (p := ⟨i1, 2, none⟩) (fun h => by have := HN.out; simp only at h; omega) (.int .i64 c)).setCell (p := ⟨i1, 3, none⟩) (fun h => by have := HN.out; simp only at h; omega) (.int .i64 d)).setCell (p := ⟨i1, 4, none⟩) (fun h => by have := HN.out; simp only at h; omega) (.int .i64 f)).setCell (p := ⟨i1, 5, none⟩) (fun h => by have := HN.out; simp only at h; omega) (.int .i64 g)).setCell (p := ⟨i1, 6, none⟩) (fun h => by have := HN.out; simp only at h; omega) (.slice pa pn pc)))
  have kz := (heap_setCell_same _ i1 6 _ _ (.slice pa pn pc) (heap_setCell_same _ i1 5 _ _ (.int .i64 g) (heap_setCell_same _ i1 4 _ _ (.int .i64 f) (heap_setCell_same _ i1 3 _ _ (.int .i64 d) (heap_setCell_same _ i1 2 _ _ (.int .i64 c) (heap_setCell_same _ i1 1 _ _ (.int .i64 b) (heap_setCell_same _ i1 0 _ _ (.int .i64 a) KB1.out)))))))
  simp only [List.setIfInBounds_toArray, List.set_cons_zero, List.set_cons_succ] at kz
  have KR := aside kz
  clear kz
  go_wp2
  exact bodyPost_ret (v := .agg #[.int .i64 a, .int .i64 b, .int .i64 c, .int .i64 d, .int .i64 f, .int .i64 g, .slice pa pn pc]) (by simp [results, Try.results34, go_sem, cell_of_row _ _ 0 _ _ _ KR.out, cell_of_row _ _ 1 _ _ _ KR.out, cell_of_row _ _ 2 _ _ _ KR.out, cell_of_row _ _ 3 _ _ _ KR.out, cell_of_row _ _ 4 _ _ _ KR.out, cell_of_row _ _ 5 _ _ _ KR.out, cell_of_row _ _ 6 _ _ _ KR.out]) rfl ⟨pa, pn, pc, rfl, (PR.out.keep SK.out (fun k e h => by have := HBX.out; omega)).low HBX.out.1, RR.out.keep SK.out (fun h => by have := HN.out; omega), KF.out⟩
theorem rframe_at {br : Nat} {s : ByteArray} {l : List UInt8} {w : World} {F : FV} {p' : Nat} {e' : Int} (h : OneR br s l 0 0 w) (hf : frameSt l = (F, p', e')) :
    Calls Try.prog 34 #[.agg #[.pointer (some ⟨br, 0, none⟩)]] w fun r w' => ∃ pa pn pc, r = .returned (.agg #[.int .i64 F.fr, .int .i64 F.tz, .int .i64 F.o, .int .i64 F.l, .int .i64 F.n, .int .i64 F.tn, .slice pa pn pc]) ∧ PartsRd w' w.heap.size pa pn pc F.ps ∧ OneR br s l p' e' w' ∧ Keeps (fun x => x = br) w w' := by
  rcases h1 : numSt l 0 0 7 with ⟨a, p1, e1⟩
  rcases h2 : numSt l p1 e1 7 with ⟨b, p2, e2⟩
  rcases h3 : numSt l p2 e2 7 with ⟨c, p3, e3⟩
  rcases h4 : numSt l p3 e3 1048576 with ⟨d, p4, e4⟩
  rcases h5 : numSt l p4 e4 1048576 with ⟨f, p5, e5⟩
  rcases h6 : numSt l p5 e5 63 with ⟨g, p6, e6⟩
  rcases h7 : listSt l p6 e6 with ⟨ps, p7, e7⟩
  rw [frameSt_eq h1 h2 h3 h4 h5 h6 h7] at hf
  simp only [Prod.mk.injEq] at hf
  obtain ⟨rfl, rfl, rfl⟩ := hf
  exact rframe_eq h h1 h2 h3 h4 h5 h6 h7
end Go.Proofs.Ytbnppmkdhnpdfaa
namespace Go.Proofs.Ytbnppmkdhnpdfaa
open Go.RowKit
set_option linter.unusedVariables false
/-- Whether two parts are the same. -/
def SamePm (p q : Pm) : Prop := p.kind = q.kind ∧ p.lo = q.lo ∧ p.hi = q.hi ∧ p.op = q.op ∧ p.cnt = q.cnt ∧ p.s0 = q.s0 ∧ p.s1 = q.s1 ∧ p.el = q.el ∧ ∀ k, k < p.el → p.T k = q.T k
theorem rg_ne_same (lo hi : ByteArray) (op : Bool) (w : World) : (binOp .neq 38 (.agg #[.string lo, .string hi, .bool op]) (.agg #[.string lo, .string hi, .bool op])).run Try.prog w = .ok (.bool false) w := by
  rw [rg_ne_run]; simp
theorem ent_ne_sameF (k : ByteArray) (c n : Int) (v : ByteArray) (d : Bool) (w : World) : (binOp .neq 50 (.agg #[.string k, .int .i64 c, .int .i64 n, .string v, .bool d]) (.agg #[.string k, .int .i64 c, .int .i64 n, .string v, .bool d])).run Try.prog w = .ok (.bool false) w := by
  rw [run_neq_struct, show (10000 : Nat) = 9999 + 1 from rfl]
  go_simp
theorem name_same (a l n : Int) (w : World) : (binOp .eql 23 (.agg #[.int .i64 a, .int .i64 l, .int .i64 n]) (.agg #[.int .i64 a, .int .i64 l, .int .i64 n])).run Try.prog w = .ok (.bool true) w := by
  rw [name_run]; simp
end Go.Proofs.Ytbnppmkdhnpdfaa
namespace Go.Proofs.Ytbnppmkdhnpdfaa
open Go.RowKit
set_option linter.unusedVariables false
theorem itN_ext {r : Rg} {T S : Nat → En} : ∀ {n : Nat}, (∀ k, k < n → T k = S k) → itN r T n = itN r S n
  | 0, _ => rfl
  | n + 1, h => by
    have e := itN_ext (r := r) (fun k hk => h k (Nat.lt_succ_of_lt hk))
    have e2 : itAt r T n = itAt r S n := by
      unfold itAt
      rw [h n (Nat.lt_succ_self _)]
      by_cases hn : n = 0
      · subst hn; simp
      · rw [h (n - 1) (by omega)]
    simp only [itN]
    rw [e, e2]
theorem SamePm.chk {p q : Pm} (h : SamePm p q) (hi : ByteArray) (op : Bool) : p.chk hi op = q.chk hi op := by
  obtain ⟨k1, lo1, hi1, op1, c1, a1, b1, ea1, el1, ec1, T1⟩ := p
  obtain ⟨k2, lo2, hi2, op2, c2, a2, b2, ea2, el2, ec2, T2⟩ := q
  obtain ⟨h1, h2, h3, h4, h5, h6, h7, h8, h9⟩ := h
  dsimp only at h1 h2 h3 h4 h5 h6 h7 h8 h9
  subst h1 h2 h3 h4 h5 h6 h7 h8
  unfold Pm.chk Pm.alone Pm.its Pm.rg
  dsimp only
  rw [itN_ext h9]
section
variable {P Q : Nat → Pm} {n : Nat}
theorem ptN_ext : ∀ {n : Nat}, (∀ i, i < n → SamePm (P i) (Q i)) → ptN P n = ptN Q n
  | 0, _ => rfl
  | n + 1, h => by
    have e := ptN_ext (fun k hk => h k (Nat.lt_succ_of_lt hk))
    have e2 : ptAt P n = ptAt Q n := by
      unfold ptAt
      rw [(h n (Nat.lt_succ_self _)).chk]
      cases n with
      | zero => rfl
      | succ m =>
        simp only [ahHi, ahOp]
        rw [(h m (by omega)).2.2.1, (h m (by omega)).2.2.2.1]
    simp only [ptN]
    rw [e, e2]
theorem totE_ext : ∀ {n : Nat}, (∀ i, i < n → SamePm (P i) (Q i)) → totE P n = totE Q n
  | 0, _ => rfl
  | n + 1, h => by
    have e := totE_ext (fun k hk => h k (Nat.lt_succ_of_lt hk))
    simp only [totE]
    rw [e, (h n (Nat.lt_succ_self _)).2.2.2.2.2.2.2.1]
theorem psChk_ext (h : ∀ i, i < n → SamePm (P i) (Q i)) : psChk P n = psChk Q n := by
  unfold psChk
  rw [ptN_ext h, totE_ext h]
theorem opening_ext (h : ∀ i, i < n → SamePm (P i) (Q i)) : opening P n = opening Q n := by
  unfold opening
  by_cases hn : n = 1
  · subst hn
    obtain ⟨h1, h2, h3, h4, -⟩ := h 0 (by omega)
    rw [h1, h2, h3, h4]
  · simp [hn]
theorem fChk_ext {fr tz o l k tn : Int} (h : ∀ i, i < n → SamePm (P i) (Q i)) : fChk fr tz o l k tn P n = fChk fr tz o l k tn Q n := by
  unfold fChk
  rw [psChk_ext h, opening_ext h]
end
theorem totE_most {P : Nat → Pm} {m : Nat} : ∀ {n : Nat}, (∀ i, i < n → (P i).el ≤ m) → totE P n ≤ n * m
  | 0, _ => Nat.zero_le _
  | n + 1, h => by
    have e := totE_most (fun k hk => h k (Nat.lt_succ_of_lt hk))
    have := h n (Nat.lt_succ_self _)
    simp only [totE]
    rw [Nat.succ_mul]
    omega
end Go.Proofs.Ytbnppmkdhnpdfaa
namespace Go.Proofs.Ytbnppmkdhnpdfaa
open Go.RowKit
set_option linter.unusedVariables false
/-- An owned row's slice, in letters. -/
theorem own_slice {w : World} {B : Nat} {e : TypeId} {s : Nat} {v : Value} {n : Nat} {xs : List Value} (h : w.ownsRow B e s v n xs) : ∃ a c, v = .slice a n c ∧ n ≤ c ∧ c ≤ maxLen ∧ ((a = none ∧ n = 0 ∧ c = 0) ∨ ∃ g, a = some ⟨g, 0, none⟩ ∧ B ≤ g) := by
  rcases h.2 with ⟨rfl, rfl⟩ | ⟨g, cap, cur, rfl, hb, _, hn, hm, _⟩
  · exact ⟨none, 0, rfl, Nat.le_refl _, Nat.zero_le _, .inl ⟨rfl, rfl, rfl⟩⟩
  · exact ⟨_, cap, rfl, hn, hm, .inr ⟨g, rfl, hb⟩⟩
end Go.Proofs.Ytbnppmkdhnpdfaa
namespace Go.Proofs.Ytbnppmkdhnpdfaa
open Go.RowKit
set_option linter.unusedVariables false
/-- A plain part as one in memory. -/
def pvPm (v : PV) : Pm := ⟨v.kind, v.lo, v.hi, v.op, v.cnt, v.s0, v.s1, none, v.es.length, 0, nthE v.es⟩
def fvP (vs : List PV) : Nat → Pm := fun i => pvPm (vs.getD i ⟨0, ⟨#[]⟩, ⟨#[]⟩, false, 0, 0, 0, []⟩)
/-- What is wrong with a plain frame. -/
def FV.chk (F : FV) : Int := fChk F.fr F.tz F.o F.l F.n F.tn (fvP F.ps) F.ps.length
theorem fvP_at {vs : List PV} {i : Nat} {v : PV} (h : vs[i]? = some v) : fvP vs i = pvPm v := by
  unfold fvP
  rw [List.getD, h]; rfl
theorem at_of_lt {vs : List PV} {i : Nat} (h : i < vs.length) : ∃ v, vs[i]? = some v ∧ v ∈ vs := ⟨vs[i], List.getElem?_eq_getElem h, List.getElem_mem h⟩
theorem PmV.len {w : World} {B : Nat} {m : Pm} {v : PV} (h : PmV w B m v) : m.el = v.es.length := by
  have := h.2.2.2.2.2.2.2.2.1
  rw [entCells_length] at this
  omega
theorem PmV.same {w : World} {B : Nat} {m : Pm} {v : PV} (h : PmV w B m v) : SamePm m (pvPm v) := by
  have hl := h.len
  obtain ⟨h1, h2, h3, h4, h5, h6, h7, h8, h9⟩ := h
  exact ⟨h1, h2, h3, h4, h5, h6, h7, hl, fun k _ => by rw [h8]; rfl⟩
theorem RdF.same {w : World} {B n c : Nat} {a : Option Addr} {P : Nat → Pm} {vs : List PV} (h : RdF w B a n c P vs) : ∀ i, i < n → SamePm (P i) (fvP vs i) := by
  intro i hi
  obtain ⟨v, hv, -⟩ := at_of_lt (vs := vs) (i := i) (by rw [h.len]; exact hi)
  rw [fvP_at hv]
  exact (h.ent i v hv).same
theorem ents_in {w : World} {B n c : Nat} {a : Option Addr} {es : List En} (h : w.ownsRow B 50 5 (.slice a n c) n (entCells es)) (hk : ∀ e ∈ es, e.k.size ≤ 140737488351232) : EntsIn w a n c (nthE es) := by
  have hn : es.length = n := by have := h.1; rw [entCells_length] at this; omega
  obtain ⟨a', c', e1, h2, h3, h4⟩ := own_slice h
  injection e1 with e1 e2 e3
  subst e1 e3
  rcases h4 with ⟨rfl, rfl, rfl⟩ | h4
  · exact ⟨h2, h3, .inl rfl⟩
  · by_cases h0 : n = 0
    · exact ⟨h2, h3, .inl h0⟩
    · obtain ⟨g, rfl⟩ : ∃ g, a = some ⟨g, 0, none⟩ := by
        rcases h.2 with ⟨q, q2⟩ | ⟨g, cap, cur, q, _⟩
        · omega
        · injection q with q _ _; exact ⟨g, q⟩
      refine ⟨h2, h3, .inr ⟨g, 0, rfl, (h.lt g rfl).2, fun i hi => ⟨?_, hk _ ?_⟩⟩⟩
      · have := row_cells h (i := i) (by rw [hn]; exact hi)
        simpa using this
      · exact List.mem_of_getElem? (nthE_get (l := es) (i := i) (by rw [hn]; exact hi))
theorem RdF.parts {w : World} {B n c : Nat} {a : Option Addr} {P : Nat → Pm} {vs : List PV} (h : RdF w B a n c P vs) (hk : ∀ v ∈ vs, ∀ e ∈ v.es, e.k.size ≤ 140737488351232) : PartsIn w a n c P := by
  have hin : ∀ i, i < n → (P i).In w := fun i hi => by
    obtain ⟨v, hv, hm⟩ := at_of_lt (vs := vs) (i := i) (by rw [h.len]; exact hi)
    obtain ⟨h1, h2, h3, h4, h5, h6, h7, h8, h9⟩ := h.ent i v hv
    unfold Pm.In
    rw [h8]
    exact ents_in h9 (hk v hm)
  obtain ⟨a', c', e1, h2, h3, h4⟩ := own_slice h.row
  injection e1 with e1 e2 e3
  subst e1 e3
  by_cases h0 : n = 0
  · exact ⟨h2, h3, .inl h0⟩
  · obtain ⟨g, rfl⟩ : ∃ g, a = some ⟨g, 0, none⟩ := by
      rcases h.row.2 with ⟨q, q2⟩ | ⟨g, cap, cur, q, _⟩
      · omega
      · injection q with q _ _; exact ⟨g, q⟩
    exact parts_of_row h.row hin
theorem PVok.keys {v : PV} (h : PVok v) : ∀ e ∈ v.es, e.k.size ≤ 140737488351232 := by
  intro e he
  by_cases hk : v.kind = 1
  · rw [(h.print hk).1] at he; cases he
  · have h1 := (h.items hk).2.2.2.2 e he
    obtain ⟨k, c, n, x, d⟩ := e
    have := (En.ok_parts h1).1
    dsimp only
    omega
theorem PVok.few {v : PV} (h : PVok v) : v.es.length ≤ 256 := by
  by_cases hk : v.kind = 1
  · rw [(h.print hk).1]; exact Nat.zero_le _
  · exact (h.items hk).2.2.2.1
theorem RdF.tot {w : World} {B n c : Nat} {a : Option Addr} {P : Nat → Pm} {vs : List PV} (h : RdF w B a n c P vs) (hn : n ≤ 768) (hk : ∀ v ∈ vs, PVok v) : totE P n ≤ 4611686018427387904 := by
  have := totE_most (P := P) (m := 256) (n := n) (fun i hi => by
    obtain ⟨v, hv, hm⟩ := at_of_lt (vs := vs) (i := i) (by rw [h.len]; exact hi)
    rw [(h.ent i v hv).len]
    exact (hk v hm).few)
  omega
/-- The frame that bytes are, if they are one. -/
def decF (l : List UInt8) : Option FV := match frameSt l with
  | (F, p, e) => if l.length ≤ 65536 ∧ doneOf ((l.length : Int) - (p : Int)) e = 0 ∧ F.chk = 0 then some F else none
theorem decF_ok {l : List UInt8} {F : FV} {p : Nat} {e : Int} (h : frameSt l = (F, p, e)) (h1 : l.length ≤ 65536) (h2 : doneOf ((l.length : Int) - (p : Int)) e = 0) (h3 : F.chk = 0) : decF l = some F := by
  unfold decF; rw [h]; dsimp only; rw [if_pos ⟨h1, h2, h3⟩]
theorem decF_no {l : List UInt8} {F : FV} {p : Nat} {e : Int} (h : frameSt l = (F, p, e)) (h1 : ¬ (l.length ≤ 65536 ∧ doneOf ((l.length : Int) - (p : Int)) e = 0 ∧ F.chk = 0)) : decF l = none := by
  unfold decF; rw [h]; dsimp only; rw [if_neg h1]
theorem done_zero {n e : Int} (h : doneOf n e = 0) : e = 0 ∧ ¬ 0 < n := by
  unfold doneOf at h
  split at h
  · omega
  · rename_i h1; refine ⟨h, fun h2 => h1 ⟨h, h2⟩⟩
end Go.Proofs.Ytbnppmkdhnpdfaa
namespace Go.Proofs.Ytbnppmkdhnpdfaa
open Go.RowKit
set_option linter.unusedVariables false
/-- What Decode says of bytes. -/
def DecP (w : World) (l : List UInt8) (r : Ending) (w' : World) : Prop := Below w.heap.size w w' ∧
  ((decF l = none ∧ r = .returned (.tuple #[.agg #[.int .i64 0, .int .i64 0, .int .i64 0, .int .i64 0, .int .i64 0, .int .i64 0, .slice none 0 0], .int .i64 120])) ∨
   ∃ F pa pn pc, decF l = some F ∧ r = .returned (.tuple #[.agg #[.int .i64 F.fr, .int .i64 F.tz, .int .i64 F.o, .int .i64 F.l, .int .i64 F.n, .int .i64 F.tn, .slice pa pn pc], .int .i64 0]) ∧ PartsRd w' w.heap.size pa pn pc F.ps)
set_option maxRecDepth 100000 in
set_option maxHeartbeats 3200000 in
theorem dec_long (a : Option Addr) (len cap : Nat) (l : List UInt8) (w : World) (hR : ∀ w', Below w.heap.size w w' → Reads w' (.slice a len cap) l) (hl : 65536 < len) (hd : decF l = none) :
    Calls Try.prog 14 #[.slice a len cap] w (DecP w l) := by
  have HD := aside hd
  clear hd
  have HR := aside hR
  have B0 := aside (bnew w (.cells #[.int .i64 0, .int .i64 0, .int .i64 0, .int .i64 0, .int .i64 0, .int .i64 0, .slice none 0 0] 26))
  have K0 := aside (heap_alloc_new w (.cells #[.int .i64 0, .int .i64 0, .int .i64 0, .int .i64 0, .int .i64 0, .int .i64 0, .slice none 0 0] 26))
  clear hR
  go_enter Try.func14, Try.ntmps14
  have hgt : (65536 : Int) < (len : Int) := by omega
  go_upto_region 2 with fail
  have HS0 := aside (show (w.alloc (.cells #[.int .i64 0, .int .i64 0, .int .i64 0, .int .i64 0, .int .i64 0, .int .i64 0, .slice none 0 0] 26)).heap.size = w.heap.size + 1 from by rw [World.size_alloc])
  obtain ⟨i0, hi0⟩ : ∃ i0, w.heap.size = i0 := ⟨_, rfl⟩
  have HI0 := aside (show w.heap.size ≤ i0 by omega)
  rw [hi0] at K0 HS0 ⊢
  clear hi0
  generalize w.alloc (.cells #[.int .i64 0, .int .i64 0, .int .i64 0, .int .i64 0, .int .i64 0, .int .i64 0, .slice none 0 0] 26) = X0 at B0 K0 HS0 ⊢
  have BB := aside B0.out
  obtain ⟨a0, a1, a2, a3, a4, a5, a6, hk0⟩ : ∃ a0 a1 a2 a3 a4 a5 a6 : Value, X0.heap[i0]? = some (.cells #[a0, a1, a2, a3, a4, a5, a6] 26 (0, 0)) := ⟨_, _, _, _, _, _, _, K0.out⟩
  replace K0 := aside hk0
  clear hk0
  have z0 : X0.cell? ⟨i0, 0, none⟩ = some a0 := by rw [cell_of_row _ _ 0 _ _ _ K0.out]; rfl
  have y0 := frozen_of_row _ _ 0 _ _ K0.out
  have z1 : X0.cell? ⟨i0, 1, none⟩ = some a1 := by rw [cell_of_row _ _ 1 _ _ _ K0.out]; rfl
  have y1 := frozen_of_row _ _ 1 _ _ K0.out
  have z2 : X0.cell? ⟨i0, 2, none⟩ = some a2 := by rw [cell_of_row _ _ 2 _ _ _ K0.out]; rfl
  have y2 := frozen_of_row _ _ 2 _ _ K0.out
  have z3 : X0.cell? ⟨i0, 3, none⟩ = some a3 := by rw [cell_of_row _ _ 3 _ _ _ K0.out]; rfl
  have y3 := frozen_of_row _ _ 3 _ _ K0.out
  have z4 : X0.cell? ⟨i0, 4, none⟩ = some a4 := by rw [cell_of_row _ _ 4 _ _ _ K0.out]; rfl
  have y4 := frozen_of_row _ _ 4 _ _ K0.out
  have z5 : X0.cell? ⟨i0, 5, none⟩ = some a5 := by rw [cell_of_row _ _ 5 _ _ _ K0.out]; rfl
  have y5 := frozen_of_row _ _ 5 _ _ K0.out
  have z6 : X0.cell? ⟨i0, 6, none⟩ = some a6 := by rw [cell_of_row _ _ 6 _ _ _ K0.out]; rfl
  have y6 := frozen_of_row _ _ 6 _ _ K0.out
  have kz := (heap_setCell_same _ i0 6 _ _ (.slice none 0 0) (heap_setCell_same _ i0 5 _ _ (.int .i64 0) (heap_setCell_same _ i0 4 _ _ (.int .i64 0) (heap_setCell_same _ i0 3 _ _ (.int .i64 0) (heap_setCell_same _ i0 2 _ _ (.int .i64 0) (heap_setCell_same _ i0 1 _ _ (.int .i64 0) (heap_setCell_same _ i0 0 _ _ (.int .i64 0) K0.out)))))))
  simp only [List.setIfInBounds_toArray, List.set_cons_zero, List.set_cons_succ] at kz
  have KR := aside kz
  have BF := aside (((((((BB.out.setCell (p := ⟨i0, 0, none⟩) HI0.out (.int .i64 0)).setCell (p := ⟨i0, 1, none⟩) HI0.out (.int .i64 0)).setCell (p := ⟨i0, 2, none⟩) HI0.out (.int .i64 0)).setCell (p := ⟨i0, 3, none⟩) HI0.out (.int .i64 0)).setCell (p := ⟨i0, 4, none⟩) HI0.out (.int .i64 0)).setCell (p := ⟨i0, 5, none⟩) HI0.out (.int .i64 0)).setCell (p := ⟨i0, 6, none⟩) HI0.out (.slice none 0 0))
  have SK := aside ((((((((Keeps.refl (fun x => x = i0) X0).setCell (p := ⟨i0, 0, none⟩) (fun _ => rfl) (.int .i64 0)).setCell (p := ⟨i0, 1, none⟩) (fun _ => rfl) (.int .i64 0)).setCell (p := ⟨i0, 2, none⟩) (fun _ => rfl) (.int .i64 0)).setCell (p := ⟨i0, 3, none⟩) (fun _ => rfl) (.int .i64 0)).setCell (p := ⟨i0, 4, none⟩) (fun _ => rfl) (.int .i64 0)).setCell (p := ⟨i0, 5, none⟩) (fun _ => rfl) (.int .i64 0)).setCell (p := ⟨i0, 6, none⟩) (fun _ => rfl) (.slice none 0 0))
  clear kz
  go_wp2
  exact bodyPost_ret (v := .tuple #[.agg #[.int .i64 0, .int .i64 0, .int .i64 0, .int .i64 0, .int .i64 0, .int .i64 0, .slice none 0 0], .int .i64 120]) (by simp [results, Try.results14, go_sem, cell_of_row _ _ 0 _ _ _ KR.out, cell_of_row _ _ 1 _ _ _ KR.out, cell_of_row _ _ 2 _ _ _ KR.out, cell_of_row _ _ 3 _ _ _ KR.out, cell_of_row _ _ 4 _ _ _ KR.out, cell_of_row _ _ 5 _ _ _ KR.out, cell_of_row _ _ 6 _ _ _ KR.out]) rfl ⟨BF.out, .inl ⟨HD.out, rfl⟩⟩
end Go.Proofs.Ytbnppmkdhnpdfaa
namespace Go.Proofs.Ytbnppmkdhnpdfaa
open Go.RowKit
set_option linter.unusedVariables false
set_option maxRecDepth 100000 in
set_option maxHeartbeats 3200000 in
theorem dec_done (a : Option Addr) (len cap : Nat) (l : List UInt8) (w : World) (hR : ∀ w', Below w.heap.size w w' → Reads w' (.slice a len cap) l) (hle : ¬ (65536 : Int) < (len : Int)) (hl2 : l.length ≤ 65536) {fr tz o lf n tn : Int} {ps : List PV} {p : Nat} {e q : Int} (hf : frameSt l = (⟨fr, tz, o, lf, n, tn, ps⟩, p, e)) (hq : doneOf ((l.length : Int) - (p : Int)) e = q) (hq0 : q ≠ 0) (hd : decF l = none) :
    Calls Try.prog 14 #[.slice a len cap] w (DecP w l) := by
  have HD := aside hd
  have HF := aside hf
  have HQ := aside hq
  clear hd hf hq
  have HR := aside hR
  have B0 := aside (bnew w (.cells #[.int .i64 0, .int .i64 0, .int .i64 0, .int .i64 0, .int .i64 0, .int .i64 0, .slice none 0 0] 26))
  have K0 := aside (heap_alloc_new w (.cells #[.int .i64 0, .int .i64 0, .int .i64 0, .int .i64 0, .int .i64 0, .int .i64 0, .slice none 0 0] 26))
  clear hR
  go_enter Try.func14, Try.ntmps14
  go_wp2_with fail
  have HS0 := aside (show (w.alloc (.cells #[.int .i64 0, .int .i64 0, .int .i64 0, .int .i64 0, .int .i64 0, .int .i64 0, .slice none 0 0] 26)).heap.size = w.heap.size + 1 from by rw [World.size_alloc])
  obtain ⟨i0, hi0⟩ : ∃ i0, w.heap.size = i0 := ⟨_, rfl⟩
  have HI0 := aside (show w.heap.size ≤ i0 by omega)
  rw [hi0] at K0 HS0 ⊢
  clear hi0
  generalize w.alloc (.cells #[.int .i64 0, .int .i64 0, .int .i64 0, .int .i64 0, .int .i64 0, .int .i64 0, .slice none 0 0] 26) = X0 at B0 K0 HS0 ⊢
  refine (newReader_any _ l _ (HR.out _ B0.out)).mono ?_
  rintro r X1 ⟨rfl, rfl⟩
  have R1 := aside (isR_new X0 ⟨l.toArray⟩)
  have B1 := aside (bnew X0 (.cells #[.string ⟨l.toArray⟩, .int .i64 0, .int .i64 0] 95))
  replace K0 := aside (blk_on K0.out B1.out)
  have BB := aside (bthen B0.out B1.out)
  have HS1 := aside (show (X0.alloc (.cells #[.string ⟨l.toArray⟩, .int .i64 0, .int .i64 0] 95)).heap.size = X0.heap.size + 1 from by rw [World.size_alloc])
  obtain ⟨br, hbr⟩ : ∃ br, X0.heap.size = br := ⟨_, rfl⟩
  rw [hbr] at R1 HS0 HS1 ⊢
  clear hbr B0
  generalize X0.alloc (.cells #[.string ⟨l.toArray⟩, .int .i64 0, .int .i64 0] 95) = X1 at R1 BB K0 HS1 ⊢
  clear B1
  have B2 := aside (bnew X1 (.cells #[.pointer (some ⟨br, 0, none⟩)] 72))
  have K1 := aside (heap_alloc_new X1 (.cells #[.pointer (some ⟨br, 0, none⟩)] 72))
  replace K0 := aside (blk_on K0.out B2.out)
  replace BB := aside (bthen BB.out B2.out)
  have RR := aside (show OneR br ⟨l.toArray⟩ l 0 0 (X1.alloc (.cells #[.pointer (some ⟨br, 0, none⟩)] 72)) from ⟨blk_on R1.out B2.out, by simp, Nat.zero_le _, by omega⟩)
  have HS2 := aside (show (X1.alloc (.cells #[.pointer (some ⟨br, 0, none⟩)] 72)).heap.size = X1.heap.size + 1 from by rw [World.size_alloc])
  clear R1 B2
  go_upto_region 4 with fail
  obtain ⟨i1, hi1⟩ : ∃ i1, X1.heap.size = i1 := ⟨_, rfl⟩
  rw [hi1] at K1 HS1 HS2 ⊢
  clear hi1
  generalize X1.alloc (.cells #[.pointer (some ⟨br, 0, none⟩)] 72) = X2 at RR BB K0 K1 HS2 ⊢
  have HN := aside (show w.heap.size ≤ i0 ∧ br = i0 + 1 ∧ i1 = br + 1 ∧ X2.heap.size = i1 + 1 from ⟨HI0.out, HS0.out, HS1.out, HS2.out⟩)
  clear HS0 HS1 HS2
  have c1 : X2.cell? ⟨i1, 0, none⟩ = some (.pointer (some ⟨br, 0, none⟩)) := by rw [cell_of_row _ _ 0 _ _ _ K1.out]; rfl
  go_wp2_with fail
  refine (rframe_at RR.out HF.out).mono ?_
  rintro r X3 ⟨pa, pn, pc, rfl, PR1, R1, k1⟩
  dsimp only
  have PR := aside PR1
  replace K0 := aside ((k1.block i0 (Array.getElem?_eq_some_iff.1 K0.out).1 (fun h => by have := HN.out; omega)).trans K0.out)
  replace K1 := aside ((k1.block i1 (Array.getElem?_eq_some_iff.1 K1.out).1 (fun h => by have := HN.out; omega)).trans K1.out)
  replace BB := aside (BB.out.trans (k1.below BB.out.size (fun k hk e => by have := HN.out; omega)))
  replace RR := aside R1
  have HSZ := aside (show i1 + 1 ≤ X3.heap.size from by have h1 := HN.out; have h2 := k1.size; omega)
  clear PR1 R1 k1 c1
  have B4 := aside (bnew X3 (.cells #[.int .i64 fr, .int .i64 tz, .int .i64 o, .int .i64 lf, .int .i64 n, .int .i64 tn, .slice pa pn pc] 26))
  have K2 := aside (heap_alloc_new X3 (.cells #[.int .i64 fr, .int .i64 tz, .int .i64 o, .int .i64 lf, .int .i64 n, .int .i64 tn, .slice pa pn pc] 26))
  replace K0 := aside (blk_on K0.out B4.out)
  replace K1 := aside (blk_on K1.out B4.out)
  replace PR := aside (PR.out.on B4.out)
  replace BB := aside (bthen BB.out B4.out)
  replace RR := aside (RR.out.keep (Keeps.of_below B4.out (fun _ => False)) (fun h => h))
  clear B4
  go_upto_region 5 with fail
  obtain ⟨i2, hi2⟩ : ∃ i2, X3.heap.size = i2 := ⟨_, rfl⟩
  rw [hi2] at K2 HSZ ⊢
  clear hi2
  generalize X3.alloc (.cells #[.int .i64 fr, .int .i64 tz, .int .i64 o, .int .i64 lf, .int .i64 n, .int .i64 tn, .slice pa pn pc] 26) = X4 at RR BB K0 K1 K2 PR ⊢
  have c1 : X4.cell? ⟨i1, 0, none⟩ = some (.pointer (some ⟨br, 0, none⟩)) := by rw [cell_of_row _ _ 0 _ _ _ K1.out]; rfl
  go_wp2_with fail
  refine (rdone_any br ⟨l.toArray⟩ p e X4 RR.out.code (by omega) (by rw [bsize]; have := RR.out.le; omega) (by rw [bsize]; omega)).mono ?_
  rintro r X5 ⟨rfl, nn, rfl⟩
  rw [bsize, HQ.out]
  have sk := (Keeps.refl (fun _ => False) X4).drewN nn
  replace K0 := aside ((sk.block i0 (Array.getElem?_eq_some_iff.1 K0.out).1 (fun h => h)).trans K0.out)
  replace K2 := aside ((sk.block i2 (Array.getElem?_eq_some_iff.1 K2.out).1 (fun h => h)).trans K2.out)
  replace PR := aside (PR.out.keep sk (fun k h => h.elim))
  replace BB := aside (BB.out.trans (sk.below BB.out.size (fun k _ h => h)))
  clear sk c1 K1 RR
  generalize X4.drewN nn = X5 at BB K0 K2 PR ⊢
  have hq1 : (q != 0) = true := by simpa using hq0
  go_upto_region 6 with fail
  obtain ⟨a0, a1, a2, a3, a4, a5, a6, hk0⟩ : ∃ a0 a1 a2 a3 a4 a5 a6 : Value, X5.heap[i0]? = some (.cells #[a0, a1, a2, a3, a4, a5, a6] 26 (0, 0)) := ⟨_, _, _, _, _, _, _, K0.out⟩
  replace K0 := aside hk0
  clear hk0
  have z0 : X5.cell? ⟨i0, 0, none⟩ = some a0 := by rw [cell_of_row _ _ 0 _ _ _ K0.out]; rfl
  have y0 := frozen_of_row _ _ 0 _ _ K0.out
  have z1 : X5.cell? ⟨i0, 1, none⟩ = some a1 := by rw [cell_of_row _ _ 1 _ _ _ K0.out]; rfl
  have y1 := frozen_of_row _ _ 1 _ _ K0.out
  have z2 : X5.cell? ⟨i0, 2, none⟩ = some a2 := by rw [cell_of_row _ _ 2 _ _ _ K0.out]; rfl
  have y2 := frozen_of_row _ _ 2 _ _ K0.out
  have z3 : X5.cell? ⟨i0, 3, none⟩ = some a3 := by rw [cell_of_row _ _ 3 _ _ _ K0.out]; rfl
  have y3 := frozen_of_row _ _ 3 _ _ K0.out
  have z4 : X5.cell? ⟨i0, 4, none⟩ = some a4 := by rw [cell_of_row _ _ 4 _ _ _ K0.out]; rfl
  have y4 := frozen_of_row _ _ 4 _ _ K0.out
  have z5 : X5.cell? ⟨i0, 5, none⟩ = some a5 := by rw [cell_of_row _ _ 5 _ _ _ K0.out]; rfl
  have y5 := frozen_of_row _ _ 5 _ _ K0.out
  have z6 : X5.cell? ⟨i0, 6, none⟩ = some a6 := by rw [cell_of_row _ _ 6 _ _ _ K0.out]; rfl
  have y6 := frozen_of_row _ _ 6 _ _ K0.out
  have kz := (heap_setCell_same _ i0 6 _ _ (.slice none 0 0) (heap_setCell_same _ i0 5 _ _ (.int .i64 0) (heap_setCell_same _ i0 4 _ _ (.int .i64 0) (heap_setCell_same _ i0 3 _ _ (.int .i64 0) (heap_setCell_same _ i0 2 _ _ (.int .i64 0) (heap_setCell_same _ i0 1 _ _ (.int .i64 0) (heap_setCell_same _ i0 0 _ _ (.int .i64 0) K0.out)))))))
  simp only [List.setIfInBounds_toArray, List.set_cons_zero, List.set_cons_succ] at kz
  have KR := aside kz
  have BF := aside (((((((BB.out.setCell (p := ⟨i0, 0, none⟩) HI0.out (.int .i64 0)).setCell (p := ⟨i0, 1, none⟩) HI0.out (.int .i64 0)).setCell (p := ⟨i0, 2, none⟩) HI0.out (.int .i64 0)).setCell (p := ⟨i0, 3, none⟩) HI0.out (.int .i64 0)).setCell (p := ⟨i0, 4, none⟩) HI0.out (.int .i64 0)).setCell (p := ⟨i0, 5, none⟩) HI0.out (.int .i64 0)).setCell (p := ⟨i0, 6, none⟩) HI0.out (.slice none 0 0))
  have SK := aside ((((((((Keeps.refl (fun x => x = i0) X5).setCell (p := ⟨i0, 0, none⟩) (fun _ => rfl) (.int .i64 0)).setCell (p := ⟨i0, 1, none⟩) (fun _ => rfl) (.int .i64 0)).setCell (p := ⟨i0, 2, none⟩) (fun _ => rfl) (.int .i64 0)).setCell (p := ⟨i0, 3, none⟩) (fun _ => rfl) (.int .i64 0)).setCell (p := ⟨i0, 4, none⟩) (fun _ => rfl) (.int .i64 0)).setCell (p := ⟨i0, 5, none⟩) (fun _ => rfl) (.int .i64 0)).setCell (p := ⟨i0, 6, none⟩) (fun _ => rfl) (.slice none 0 0))
  clear kz
  go_wp2
  exact bodyPost_ret (v := .tuple #[.agg #[.int .i64 0, .int .i64 0, .int .i64 0, .int .i64 0, .int .i64 0, .int .i64 0, .slice none 0 0], .int .i64 120]) (by simp [results, Try.results14, go_sem, cell_of_row _ _ 0 _ _ _ KR.out, cell_of_row _ _ 1 _ _ _ KR.out, cell_of_row _ _ 2 _ _ _ KR.out, cell_of_row _ _ 3 _ _ _ KR.out, cell_of_row _ _ 4 _ _ _ KR.out, cell_of_row _ _ 5 _ _ _ KR.out, cell_of_row _ _ 6 _ _ _ KR.out]) rfl ⟨BF.out, .inl ⟨HD.out, rfl⟩⟩
end Go.Proofs.Ytbnppmkdhnpdfaa
namespace Go.Proofs.Ytbnppmkdhnpdfaa
open Go.RowKit
set_option linter.unusedVariables false
set_option maxRecDepth 100000 in
set_option maxHeartbeats 3200000 in
theorem dec_chk (a : Option Addr) (len cap : Nat) (l : List UInt8) (w : World) (hR : ∀ w', Below w.heap.size w w' → Reads w' (.slice a len cap) l) (hle : ¬ (65536 : Int) < (len : Int)) (hl2 : l.length ≤ 65536) {fr tz o lf n tn : Int} {ps : List PV} {p : Nat} {e q : Int} (hf : frameSt l = (⟨fr, tz, o, lf, n, tn, ps⟩, p, e)) (hq : doneOf ((l.length : Int) - (p : Int)) e = q) (hq0 : q = 0) (hok : FVok ⟨fr, tz, o, lf, n, tn, ps⟩) {ch : Int} (hc : FV.chk ⟨fr, tz, o, lf, n, tn, ps⟩ = ch) (hc0 : ch ≠ 0) (hd : decF l = none) :
    Calls Try.prog 14 #[.slice a len cap] w (DecP w l) := by
  have HD := aside hd
  have HF := aside hf
  have HQ := aside hq
  have HOK := aside hok
  have HC := aside hc
  clear hd hf hq hok hc
  have HR := aside hR
  have B0 := aside (bnew w (.cells #[.int .i64 0, .int .i64 0, .int .i64 0, .int .i64 0, .int .i64 0, .int .i64 0, .slice none 0 0] 26))
  have K0 := aside (heap_alloc_new w (.cells #[.int .i64 0, .int .i64 0, .int .i64 0, .int .i64 0, .int .i64 0, .int .i64 0, .slice none 0 0] 26))
  clear hR
  go_enter Try.func14, Try.ntmps14
  go_wp2_with fail
  have HS0 := aside (show (w.alloc (.cells #[.int .i64 0, .int .i64 0, .int .i64 0, .int .i64 0, .int .i64 0, .int .i64 0, .slice none 0 0] 26)).heap.size = w.heap.size + 1 from by rw [World.size_alloc])
  obtain ⟨i0, hi0⟩ : ∃ i0, w.heap.size = i0 := ⟨_, rfl⟩
  have HI0 := aside (show w.heap.size ≤ i0 by omega)
  rw [hi0] at K0 HS0 ⊢
  clear hi0
  generalize w.alloc (.cells #[.int .i64 0, .int .i64 0, .int .i64 0, .int .i64 0, .int .i64 0, .int .i64 0, .slice none 0 0] 26) = X0 at B0 K0 HS0 ⊢
  refine (newReader_any _ l _ (HR.out _ B0.out)).mono ?_
  rintro r X1 ⟨rfl, rfl⟩
  have R1 := aside (isR_new X0 ⟨l.toArray⟩)
  have B1 := aside (bnew X0 (.cells #[.string ⟨l.toArray⟩, .int .i64 0, .int .i64 0] 95))
  replace K0 := aside (blk_on K0.out B1.out)
  have BB := aside (bthen B0.out B1.out)
  have HS1 := aside (show (X0.alloc (.cells #[.string ⟨l.toArray⟩, .int .i64 0, .int .i64 0] 95)).heap.size = X0.heap.size + 1 from by rw [World.size_alloc])
  obtain ⟨br, hbr⟩ : ∃ br, X0.heap.size = br := ⟨_, rfl⟩
  rw [hbr] at R1 HS0 HS1 ⊢
  clear hbr B0
  generalize X0.alloc (.cells #[.string ⟨l.toArray⟩, .int .i64 0, .int .i64 0] 95) = X1 at R1 BB K0 HS1 ⊢
  clear B1
  have B2 := aside (bnew X1 (.cells #[.pointer (some ⟨br, 0, none⟩)] 72))
  have K1 := aside (heap_alloc_new X1 (.cells #[.pointer (some ⟨br, 0, none⟩)] 72))
  replace K0 := aside (blk_on K0.out B2.out)
  replace BB := aside (bthen BB.out B2.out)
  have RR := aside (show OneR br ⟨l.toArray⟩ l 0 0 (X1.alloc (.cells #[.pointer (some ⟨br, 0, none⟩)] 72)) from ⟨blk_on R1.out B2.out, by simp, Nat.zero_le _, by omega⟩)
  have HS2 := aside (show (X1.alloc (.cells #[.pointer (some ⟨br, 0, none⟩)] 72)).heap.size = X1.heap.size + 1 from by rw [World.size_alloc])
  clear R1 B2
  go_upto_region 4 with fail
  obtain ⟨i1, hi1⟩ : ∃ i1, X1.heap.size = i1 := ⟨_, rfl⟩
  rw [hi1] at K1 HS1 HS2 ⊢
  clear hi1
  generalize X1.alloc (.cells #[.pointer (some ⟨br, 0, none⟩)] 72) = X2 at RR BB K0 K1 HS2 ⊢
  have HN := aside (show w.heap.size ≤ i0 ∧ br = i0 + 1 ∧ i1 = br + 1 ∧ X2.heap.size = i1 + 1 from ⟨HI0.out, HS0.out, HS1.out, HS2.out⟩)
  clear HS0 HS1 HS2
  have c1 : X2.cell? ⟨i1, 0, none⟩ = some (.pointer (some ⟨br, 0, none⟩)) := by rw [cell_of_row _ _ 0 _ _ _ K1.out]; rfl
  go_wp2_with fail
  refine (rframe_at RR.out HF.out).mono ?_
  rintro r X3 ⟨pa, pn, pc, rfl, PR1, R1, k1⟩
  dsimp only
  have PR := aside PR1
  replace K0 := aside ((k1.block i0 (Array.getElem?_eq_some_iff.1 K0.out).1 (fun h => by have := HN.out; omega)).trans K0.out)
  replace K1 := aside ((k1.block i1 (Array.getElem?_eq_some_iff.1 K1.out).1 (fun h => by have := HN.out; omega)).trans K1.out)
  replace BB := aside (BB.out.trans (k1.below BB.out.size (fun k hk e => by have := HN.out; omega)))
  replace RR := aside R1
  have HSZ := aside (show i1 + 1 ≤ X3.heap.size from by have h1 := HN.out; have h2 := k1.size; omega)
  clear PR1 R1 k1 c1
  have B4 := aside (bnew X3 (.cells #[.int .i64 fr, .int .i64 tz, .int .i64 o, .int .i64 lf, .int .i64 n, .int .i64 tn, .slice pa pn pc] 26))
  have K2 := aside (heap_alloc_new X3 (.cells #[.int .i64 fr, .int .i64 tz, .int .i64 o, .int .i64 lf, .int .i64 n, .int .i64 tn, .slice pa pn pc] 26))
  replace K0 := aside (blk_on K0.out B4.out)
  replace K1 := aside (blk_on K1.out B4.out)
  replace PR := aside (PR.out.on B4.out)
  replace BB := aside (bthen BB.out B4.out)
  replace RR := aside (RR.out.keep (Keeps.of_below B4.out (fun _ => False)) (fun h => h))
  clear B4
  go_upto_region 5 with fail
  obtain ⟨i2, hi2⟩ : ∃ i2, X3.heap.size = i2 := ⟨_, rfl⟩
  rw [hi2] at K2 HSZ ⊢
  clear hi2
  generalize X3.alloc (.cells #[.int .i64 fr, .int .i64 tz, .int .i64 o, .int .i64 lf, .int .i64 n, .int .i64 tn, .slice pa pn pc] 26) = X4 at RR BB K0 K1 K2 PR ⊢
  have c1 : X4.cell? ⟨i1, 0, none⟩ = some (.pointer (some ⟨br, 0, none⟩)) := by rw [cell_of_row _ _ 0 _ _ _ K1.out]; rfl
  go_wp2_with fail
  refine (rdone_any br ⟨l.toArray⟩ p e X4 RR.out.code (by omega) (by rw [bsize]; have := RR.out.le; omega) (by rw [bsize]; omega)).mono ?_
  rintro r X5 ⟨rfl, nn, rfl⟩
  rw [bsize, HQ.out]
  have sk := (Keeps.refl (fun _ => False) X4).drewN nn
  replace K0 := aside ((sk.block i0 (Array.getElem?_eq_some_iff.1 K0.out).1 (fun h => h)).trans K0.out)
  replace K2 := aside ((sk.block i2 (Array.getElem?_eq_some_iff.1 K2.out).1 (fun h => h)).trans K2.out)
  replace PR := aside (PR.out.keep sk (fun k h => h.elim))
  replace BB := aside (BB.out.trans (sk.below BB.out.size (fun k _ h => h)))
  clear sk c1 K1 RR
  generalize X4.drewN nn = X5 at BB K0 K2 PR ⊢
  obtain rfl := hq0
  have x0 : X5.cell? ⟨i2, 0, none⟩ = some (.int .i64 fr) := by rw [cell_of_row _ _ 0 _ _ _ K2.out]; rfl
  have x1 : X5.cell? ⟨i2, 1, none⟩ = some (.int .i64 tz) := by rw [cell_of_row _ _ 1 _ _ _ K2.out]; rfl
  have x2 : X5.cell? ⟨i2, 2, none⟩ = some (.int .i64 o) := by rw [cell_of_row _ _ 2 _ _ _ K2.out]; rfl
  have x3 : X5.cell? ⟨i2, 3, none⟩ = some (.int .i64 lf) := by rw [cell_of_row _ _ 3 _ _ _ K2.out]; rfl
  have x4 : X5.cell? ⟨i2, 4, none⟩ = some (.int .i64 n) := by rw [cell_of_row _ _ 4 _ _ _ K2.out]; rfl
  have x5 : X5.cell? ⟨i2, 5, none⟩ = some (.int .i64 tn) := by rw [cell_of_row _ _ 5 _ _ _ K2.out]; rfl
  have x6 : X5.cell? ⟨i2, 6, none⟩ = some (.slice pa pn pc) := by rw [cell_of_row _ _ 6 _ _ _ K2.out]; rfl
  go_wp2_with fail
  obtain ⟨P, hP⟩ := PR.out
  have hlen := hP.len
  have hPI := hP.parts (fun v hv => (HOK.out.ps v hv).keys)
  have hTT := hP.tot (by rw [← hlen]; exact HOK.out.len) HOK.out.ps
  have hext := fChk_ext (fr := fr) (tz := tz) (o := o) (l := lf) (k := n) (tn := tn) hP.same
  rw [← hlen] at hext
  refine (chkf_any fr tz o lf n tn pa pn pc P X5 hPI hTT).mono ?_
  rintro r X6 ⟨rfl, b6⟩
  rw [← hlen, hext]
  have HCH := aside (show fChk fr tz o lf n tn (fvP ps) ps.length = ch from HC.out)
  rw [HCH.out]
  replace K0 := aside (blk_on K0.out b6)
  replace K2 := aside (blk_on K2.out b6)
  replace PR := aside (PR.out.on b6)
  replace BB := aside (bthen BB.out b6)
  clear hP hlen hPI hTT hext b6 x0 x1 x2 x3 x4 x5 x6
  have hq1 : (ch != 0) = true := by simpa using hc0
  go_upto_region 6 with fail
  obtain ⟨a0, a1, a2, a3, a4, a5, a6, hk0⟩ : ∃ a0 a1 a2 a3 a4 a5 a6 : Value, X6.heap[i0]? = some (.cells #[a0, a1, a2, a3, a4, a5, a6] 26 (0, 0)) := ⟨_, _, _, _, _, _, _, K0.out⟩
  replace K0 := aside hk0
  clear hk0
  have z0 : X6.cell? ⟨i0, 0, none⟩ = some a0 := by rw [cell_of_row _ _ 0 _ _ _ K0.out]; rfl
  have y0 := frozen_of_row _ _ 0 _ _ K0.out
  have z1 : X6.cell? ⟨i0, 1, none⟩ = some a1 := by rw [cell_of_row _ _ 1 _ _ _ K0.out]; rfl
  have y1 := frozen_of_row _ _ 1 _ _ K0.out
  have z2 : X6.cell? ⟨i0, 2, none⟩ = some a2 := by rw [cell_of_row _ _ 2 _ _ _ K0.out]; rfl
  have y2 := frozen_of_row _ _ 2 _ _ K0.out
  have z3 : X6.cell? ⟨i0, 3, none⟩ = some a3 := by rw [cell_of_row _ _ 3 _ _ _ K0.out]; rfl
  have y3 := frozen_of_row _ _ 3 _ _ K0.out
  have z4 : X6.cell? ⟨i0, 4, none⟩ = some a4 := by rw [cell_of_row _ _ 4 _ _ _ K0.out]; rfl
  have y4 := frozen_of_row _ _ 4 _ _ K0.out
  have z5 : X6.cell? ⟨i0, 5, none⟩ = some a5 := by rw [cell_of_row _ _ 5 _ _ _ K0.out]; rfl
  have y5 := frozen_of_row _ _ 5 _ _ K0.out
  have z6 : X6.cell? ⟨i0, 6, none⟩ = some a6 := by rw [cell_of_row _ _ 6 _ _ _ K0.out]; rfl
  have y6 := frozen_of_row _ _ 6 _ _ K0.out
  have kz := (heap_setCell_same _ i0 6 _ _ (.slice none 0 0) (heap_setCell_same _ i0 5 _ _ (.int .i64 0) (heap_setCell_same _ i0 4 _ _ (.int .i64 0) (heap_setCell_same _ i0 3 _ _ (.int .i64 0) (heap_setCell_same _ i0 2 _ _ (.int .i64 0) (heap_setCell_same _ i0 1 _ _ (.int .i64 0) (heap_setCell_same _ i0 0 _ _ (.int .i64 0) K0.out)))))))
  simp only [List.setIfInBounds_toArray, List.set_cons_zero, List.set_cons_succ] at kz
  have KR := aside kz
  have BF := aside (((((((BB.out.setCell (p := ⟨i0, 0, none⟩) HI0.out (.int .i64 0)).setCell (p := ⟨i0, 1, none⟩) HI0.out (.int .i64 0)).setCell (p := ⟨i0, 2, none⟩) HI0.out (.int .i64 0)).setCell (p := ⟨i0, 3, none⟩) HI0.out (.int .i64 0)).setCell (p := ⟨i0, 4, none⟩) HI0.out (.int .i64 0)).setCell (p := ⟨i0, 5, none⟩) HI0.out (.int .i64 0)).setCell (p := ⟨i0, 6, none⟩) HI0.out (.slice none 0 0))
  have SK := aside ((((((((Keeps.refl (fun x => x = i0) X6).setCell (p := ⟨i0, 0, none⟩) (fun _ => rfl) (.int .i64 0)).setCell (p := ⟨i0, 1, none⟩) (fun _ => rfl) (.int .i64 0)).setCell (p := ⟨i0, 2, none⟩) (fun _ => rfl) (.int .i64 0)).setCell (p := ⟨i0, 3, none⟩) (fun _ => rfl) (.int .i64 0)).setCell (p := ⟨i0, 4, none⟩) (fun _ => rfl) (.int .i64 0)).setCell (p := ⟨i0, 5, none⟩) (fun _ => rfl) (.int .i64 0)).setCell (p := ⟨i0, 6, none⟩) (fun _ => rfl) (.slice none 0 0))
  clear kz
  go_wp2
  exact bodyPost_ret (v := .tuple #[.agg #[.int .i64 0, .int .i64 0, .int .i64 0, .int .i64 0, .int .i64 0, .int .i64 0, .slice none 0 0], .int .i64 120]) (by simp [results, Try.results14, go_sem, cell_of_row _ _ 0 _ _ _ KR.out, cell_of_row _ _ 1 _ _ _ KR.out, cell_of_row _ _ 2 _ _ _ KR.out, cell_of_row _ _ 3 _ _ _ KR.out, cell_of_row _ _ 4 _ _ _ KR.out, cell_of_row _ _ 5 _ _ _ KR.out, cell_of_row _ _ 6 _ _ _ KR.out]) rfl ⟨BF.out, .inl ⟨HD.out, rfl⟩⟩
end Go.Proofs.Ytbnppmkdhnpdfaa
namespace Go.Proofs.Ytbnppmkdhnpdfaa
open Go.RowKit
set_option linter.unusedVariables false
set_option maxRecDepth 100000 in
set_option maxHeartbeats 3200000 in
theorem dec_ok (a : Option Addr) (len cap : Nat) (l : List UInt8) (w : World) (hR : ∀ w', Below w.heap.size w w' → Reads w' (.slice a len cap) l) (hle : ¬ (65536 : Int) < (len : Int)) (hl2 : l.length ≤ 65536) {fr tz o lf n tn : Int} {ps : List PV} {p : Nat} {e q : Int} (hf : frameSt l = (⟨fr, tz, o, lf, n, tn, ps⟩, p, e)) (hq : doneOf ((l.length : Int) - (p : Int)) e = q) (hq0 : q = 0) (hok : FVok ⟨fr, tz, o, lf, n, tn, ps⟩) {ch : Int} (hc : FV.chk ⟨fr, tz, o, lf, n, tn, ps⟩ = ch) (hc0 : ch = 0) (hd : decF l = some ⟨fr, tz, o, lf, n, tn, ps⟩) :
    Calls Try.prog 14 #[.slice a len cap] w (DecP w l) := by
  have HD := aside hd
  have HF := aside hf
  have HQ := aside hq
  have HOK := aside hok
  have HC := aside hc
  clear hd hf hq hok hc
  have HR := aside hR
  have B0 := aside (bnew w (.cells #[.int .i64 0, .int .i64 0, .int .i64 0, .int .i64 0, .int .i64 0, .int .i64 0, .slice none 0 0] 26))
  have K0 := aside (heap_alloc_new w (.cells #[.int .i64 0, .int .i64 0, .int .i64 0, .int .i64 0, .int .i64 0, .int .i64 0, .slice none 0 0] 26))
  clear hR
  go_enter Try.func14, Try.ntmps14
  go_wp2_with fail
  have HS0 := aside (show (w.alloc (.cells #[.int .i64 0, .int .i64 0, .int .i64 0, .int .i64 0, .int .i64 0, .int .i64 0, .slice none 0 0] 26)).heap.size = w.heap.size + 1 from by rw [World.size_alloc])
  obtain ⟨i0, hi0⟩ : ∃ i0, w.heap.size = i0 := ⟨_, rfl⟩
  have HI0 := aside (show w.heap.size ≤ i0 by omega)
  rw [hi0] at K0 HS0 ⊢
  clear hi0
  generalize w.alloc (.cells #[.int .i64 0, .int .i64 0, .int .i64 0, .int .i64 0, .int .i64 0, .int .i64 0, .slice none 0 0] 26) = X0 at B0 K0 HS0 ⊢
  refine (newReader_any _ l _ (HR.out _ B0.out)).mono ?_
  rintro r X1 ⟨rfl, rfl⟩
  have R1 := aside (isR_new X0 ⟨l.toArray⟩)
  have B1 := aside (bnew X0 (.cells #[.string ⟨l.toArray⟩, .int .i64 0, .int .i64 0] 95))
  replace K0 := aside (blk_on K0.out B1.out)
  have BB := aside (bthen B0.out B1.out)
  have HS1 := aside (show (X0.alloc (.cells #[.string ⟨l.toArray⟩, .int .i64 0, .int .i64 0] 95)).heap.size = X0.heap.size + 1 from by rw [World.size_alloc])
  obtain ⟨br, hbr⟩ : ∃ br, X0.heap.size = br := ⟨_, rfl⟩
  rw [hbr] at R1 HS0 HS1 ⊢
  clear hbr B0
  generalize X0.alloc (.cells #[.string ⟨l.toArray⟩, .int .i64 0, .int .i64 0] 95) = X1 at R1 BB K0 HS1 ⊢
  clear B1
  have B2 := aside (bnew X1 (.cells #[.pointer (some ⟨br, 0, none⟩)] 72))
  have K1 := aside (heap_alloc_new X1 (.cells #[.pointer (some ⟨br, 0, none⟩)] 72))
  replace K0 := aside (blk_on K0.out B2.out)
  replace BB := aside (bthen BB.out B2.out)
  have RR := aside (show OneR br ⟨l.toArray⟩ l 0 0 (X1.alloc (.cells #[.pointer (some ⟨br, 0, none⟩)] 72)) from ⟨blk_on R1.out B2.out, by simp, Nat.zero_le _, by omega⟩)
  have HS2 := aside (show (X1.alloc (.cells #[.pointer (some ⟨br, 0, none⟩)] 72)).heap.size = X1.heap.size + 1 from by rw [World.size_alloc])
  clear R1 B2
  go_upto_region 4 with fail
  obtain ⟨i1, hi1⟩ : ∃ i1, X1.heap.size = i1 := ⟨_, rfl⟩
  rw [hi1] at K1 HS1 HS2 ⊢
  clear hi1
  generalize X1.alloc (.cells #[.pointer (some ⟨br, 0, none⟩)] 72) = X2 at RR BB K0 K1 HS2 ⊢
  have HN := aside (show w.heap.size ≤ i0 ∧ br = i0 + 1 ∧ i1 = br + 1 ∧ X2.heap.size = i1 + 1 from ⟨HI0.out, HS0.out, HS1.out, HS2.out⟩)
  clear HS0 HS1 HS2
  have c1 : X2.cell? ⟨i1, 0, none⟩ = some (.pointer (some ⟨br, 0, none⟩)) := by rw [cell_of_row _ _ 0 _ _ _ K1.out]; rfl
  go_wp2_with fail
  refine (rframe_at RR.out HF.out).mono ?_
  rintro r X3 ⟨pa, pn, pc, rfl, PR1, R1, k1⟩
  dsimp only
  have PR := aside PR1
  replace K0 := aside ((k1.block i0 (Array.getElem?_eq_some_iff.1 K0.out).1 (fun h => by have := HN.out; omega)).trans K0.out)
  replace K1 := aside ((k1.block i1 (Array.getElem?_eq_some_iff.1 K1.out).1 (fun h => by have := HN.out; omega)).trans K1.out)
  replace BB := aside (BB.out.trans (k1.below BB.out.size (fun k hk e => by have := HN.out; omega)))
  replace RR := aside R1
  have HSZ := aside (show i1 + 1 ≤ X3.heap.size from by have h1 := HN.out; have h2 := k1.size; omega)
  clear PR1 R1 k1 c1
  have B4 := aside (bnew X3 (.cells #[.int .i64 fr, .int .i64 tz, .int .i64 o, .int .i64 lf, .int .i64 n, .int .i64 tn, .slice pa pn pc] 26))
  have K2 := aside (heap_alloc_new X3 (.cells #[.int .i64 fr, .int .i64 tz, .int .i64 o, .int .i64 lf, .int .i64 n, .int .i64 tn, .slice pa pn pc] 26))
  replace K0 := aside (blk_on K0.out B4.out)
  replace K1 := aside (blk_on K1.out B4.out)
  replace PR := aside (PR.out.on B4.out)
  replace BB := aside (bthen BB.out B4.out)
  replace RR := aside (RR.out.keep (Keeps.of_below B4.out (fun _ => False)) (fun h => h))
  clear B4
  go_upto_region 5 with fail
  obtain ⟨i2, hi2⟩ : ∃ i2, X3.heap.size = i2 := ⟨_, rfl⟩
  rw [hi2] at K2 HSZ ⊢
  clear hi2
  generalize X3.alloc (.cells #[.int .i64 fr, .int .i64 tz, .int .i64 o, .int .i64 lf, .int .i64 n, .int .i64 tn, .slice pa pn pc] 26) = X4 at RR BB K0 K1 K2 PR ⊢
  have c1 : X4.cell? ⟨i1, 0, none⟩ = some (.pointer (some ⟨br, 0, none⟩)) := by rw [cell_of_row _ _ 0 _ _ _ K1.out]; rfl
  go_wp2_with fail
  refine (rdone_any br ⟨l.toArray⟩ p e X4 RR.out.code (by omega) (by rw [bsize]; have := RR.out.le; omega) (by rw [bsize]; omega)).mono ?_
  rintro r X5 ⟨rfl, nn, rfl⟩
  rw [bsize, HQ.out]
  have sk := (Keeps.refl (fun _ => False) X4).drewN nn
  replace K0 := aside ((sk.block i0 (Array.getElem?_eq_some_iff.1 K0.out).1 (fun h => h)).trans K0.out)
  replace K2 := aside ((sk.block i2 (Array.getElem?_eq_some_iff.1 K2.out).1 (fun h => h)).trans K2.out)
  replace PR := aside (PR.out.keep sk (fun k h => h.elim))
  replace BB := aside (BB.out.trans (sk.below BB.out.size (fun k _ h => h)))
  clear sk c1 K1 RR
  generalize X4.drewN nn = X5 at BB K0 K2 PR ⊢
  obtain rfl := hq0
  have x0 : X5.cell? ⟨i2, 0, none⟩ = some (.int .i64 fr) := by rw [cell_of_row _ _ 0 _ _ _ K2.out]; rfl
  have x1 : X5.cell? ⟨i2, 1, none⟩ = some (.int .i64 tz) := by rw [cell_of_row _ _ 1 _ _ _ K2.out]; rfl
  have x2 : X5.cell? ⟨i2, 2, none⟩ = some (.int .i64 o) := by rw [cell_of_row _ _ 2 _ _ _ K2.out]; rfl
  have x3 : X5.cell? ⟨i2, 3, none⟩ = some (.int .i64 lf) := by rw [cell_of_row _ _ 3 _ _ _ K2.out]; rfl
  have x4 : X5.cell? ⟨i2, 4, none⟩ = some (.int .i64 n) := by rw [cell_of_row _ _ 4 _ _ _ K2.out]; rfl
  have x5 : X5.cell? ⟨i2, 5, none⟩ = some (.int .i64 tn) := by rw [cell_of_row _ _ 5 _ _ _ K2.out]; rfl
  have x6 : X5.cell? ⟨i2, 6, none⟩ = some (.slice pa pn pc) := by rw [cell_of_row _ _ 6 _ _ _ K2.out]; rfl
  go_wp2_with fail
  obtain ⟨P, hP⟩ := PR.out
  have hlen := hP.len
  have hPI := hP.parts (fun v hv => (HOK.out.ps v hv).keys)
  have hTT := hP.tot (by rw [← hlen]; exact HOK.out.len) HOK.out.ps
  have hext := fChk_ext (fr := fr) (tz := tz) (o := o) (l := lf) (k := n) (tn := tn) hP.same
  rw [← hlen] at hext
  refine (chkf_any fr tz o lf n tn pa pn pc P X5 hPI hTT).mono ?_
  rintro r X6 ⟨rfl, b6⟩
  rw [← hlen, hext]
  have HCH := aside (show fChk fr tz o lf n tn (fvP ps) ps.length = ch from HC.out)
  rw [HCH.out]
  replace K0 := aside (blk_on K0.out b6)
  replace K2 := aside (blk_on K2.out b6)
  replace PR := aside (PR.out.on b6)
  replace BB := aside (bthen BB.out b6)
  clear hP hlen hPI hTT hext b6 x0 x1 x2 x3 x4 x5 x6
  subst hc0
  go_upto_region 7 with fail
  have x0 : X6.cell? ⟨i2, 0, none⟩ = some (.int .i64 fr) := by rw [cell_of_row _ _ 0 _ _ _ K2.out]; rfl
  have x1 : X6.cell? ⟨i2, 1, none⟩ = some (.int .i64 tz) := by rw [cell_of_row _ _ 1 _ _ _ K2.out]; rfl
  have x2 : X6.cell? ⟨i2, 2, none⟩ = some (.int .i64 o) := by rw [cell_of_row _ _ 2 _ _ _ K2.out]; rfl
  have x3 : X6.cell? ⟨i2, 3, none⟩ = some (.int .i64 lf) := by rw [cell_of_row _ _ 3 _ _ _ K2.out]; rfl
  have x4 : X6.cell? ⟨i2, 4, none⟩ = some (.int .i64 n) := by rw [cell_of_row _ _ 4 _ _ _ K2.out]; rfl
  have x5 : X6.cell? ⟨i2, 5, none⟩ = some (.int .i64 tn) := by rw [cell_of_row _ _ 5 _ _ _ K2.out]; rfl
  have x6 : X6.cell? ⟨i2, 6, none⟩ = some (.slice pa pn pc) := by rw [cell_of_row _ _ 6 _ _ _ K2.out]; rfl
  obtain ⟨a0, a1, a2, a3, a4, a5, a6, hk0⟩ : ∃ a0 a1 a2 a3 a4 a5 a6 : Value, X6.heap[i0]? = some (.cells #[a0, a1, a2, a3, a4, a5, a6] 26 (0, 0)) := ⟨_, _, _, _, _, _, _, K0.out⟩
  replace K0 := aside hk0
  clear hk0
  have z0 : X6.cell? ⟨i0, 0, none⟩ = some a0 := by rw [cell_of_row _ _ 0 _ _ _ K0.out]; rfl
  have y0 := frozen_of_row _ _ 0 _ _ K0.out
  have z1 : X6.cell? ⟨i0, 1, none⟩ = some a1 := by rw [cell_of_row _ _ 1 _ _ _ K0.out]; rfl
  have y1 := frozen_of_row _ _ 1 _ _ K0.out
  have z2 : X6.cell? ⟨i0, 2, none⟩ = some a2 := by rw [cell_of_row _ _ 2 _ _ _ K0.out]; rfl
  have y2 := frozen_of_row _ _ 2 _ _ K0.out
  have z3 : X6.cell? ⟨i0, 3, none⟩ = some a3 := by rw [cell_of_row _ _ 3 _ _ _ K0.out]; rfl
  have y3 := frozen_of_row _ _ 3 _ _ K0.out
  have z4 : X6.cell? ⟨i0, 4, none⟩ = some a4 := by rw [cell_of_row _ _ 4 _ _ _ K0.out]; rfl
  have y4 := frozen_of_row _ _ 4 _ _ K0.out
  have z5 : X6.cell? ⟨i0, 5, none⟩ = some a5 := by rw [cell_of_row _ _ 5 _ _ _ K0.out]; rfl
  have y5 := frozen_of_row _ _ 5 _ _ K0.out
  have z6 : X6.cell? ⟨i0, 6, none⟩ = some a6 := by rw [cell_of_row _ _ 6 _ _ _ K0.out]; rfl
  have y6 := frozen_of_row _ _ 6 _ _ K0.out
  have kz := (heap_setCell_same _ i0 6 _ _ (.slice pa pn pc) (heap_setCell_same _ i0 5 _ _ (.int .i64 tn) (heap_setCell_same _ i0 4 _ _ (.int .i64 n) (heap_setCell_same _ i0 3 _ _ (.int .i64 lf) (heap_setCell_same _ i0 2 _ _ (.int .i64 o) (heap_setCell_same _ i0 1 _ _ (.int .i64 tz) (heap_setCell_same _ i0 0 _ _ (.int .i64 fr) K0.out)))))))
  simp only [List.setIfInBounds_toArray, List.set_cons_zero, List.set_cons_succ] at kz
  have KR := aside kz
  have BF := aside (((((((BB.out.setCell (p := ⟨i0, 0, none⟩) HI0.out (.int .i64 fr)).setCell (p := ⟨i0, 1, none⟩) HI0.out (.int .i64 tz)).setCell (p := ⟨i0, 2, none⟩) HI0.out (.int .i64 o)).setCell (p := ⟨i0, 3, none⟩) HI0.out (.int .i64 lf)).setCell (p := ⟨i0, 4, none⟩) HI0.out (.int .i64 n)).setCell (p := ⟨i0, 5, none⟩) HI0.out (.int .i64 tn)).setCell (p := ⟨i0, 6, none⟩) HI0.out (.slice pa pn pc))
  have SK := aside ((((((((Keeps.refl (fun x => x = i0) X6).setCell (p := ⟨i0, 0, none⟩) (fun _ => rfl) (.int .i64 fr)).setCell (p := ⟨i0, 1, none⟩) (fun _ => rfl) (.int .i64 tz)).setCell (p := ⟨i0, 2, none⟩) (fun _ => rfl) (.int .i64 o)).setCell (p := ⟨i0, 3, none⟩) (fun _ => rfl) (.int .i64 lf)).setCell (p := ⟨i0, 4, none⟩) (fun _ => rfl) (.int .i64 n)).setCell (p := ⟨i0, 5, none⟩) (fun _ => rfl) (.int .i64 tn)).setCell (p := ⟨i0, 6, none⟩) (fun _ => rfl) (.slice pa pn pc))
  clear kz
  go_wp2
  exact bodyPost_ret (v := .tuple #[.agg #[.int .i64 fr, .int .i64 tz, .int .i64 o, .int .i64 lf, .int .i64 n, .int .i64 tn, .slice pa pn pc], .int .i64 0]) (by simp [results, Try.results14, go_sem, cell_of_row _ _ 0 _ _ _ KR.out, cell_of_row _ _ 1 _ _ _ KR.out, cell_of_row _ _ 2 _ _ _ KR.out, cell_of_row _ _ 3 _ _ _ KR.out, cell_of_row _ _ 4 _ _ _ KR.out, cell_of_row _ _ 5 _ _ _ KR.out, cell_of_row _ _ 6 _ _ _ KR.out]) rfl ⟨BF.out, .inr ⟨⟨fr, tz, o, lf, n, tn, ps⟩, pa, pn, pc, HD.out, rfl, (PR.out.keep SK.out (fun k e h => by have := HN.out; omega)).low (by have h1 := HN.out; omega)⟩⟩
end Go.Proofs.Ytbnppmkdhnpdfaa
namespace Go.Proofs.Ytbnppmkdhnpdfaa
open Go.RowKit
set_option linter.unusedVariables false
set_option maxHeartbeats 400000 in
theorem newWriter_any (w : World) :
    Calls Try.prog 22 #[] w fun e w' => e = .returned (.pointer (some ⟨w.heap.size, 0, none⟩)) ∧ w' = w.alloc (.cells #[.slice none 0 0] 86) := by
  go_enter Try.func22, Try.ntmps22
  go_wp2
  go_ret
  exact ⟨rfl, rfl⟩
theorem isW_new (T B : Nat) (w : World) (hB : B ≤ w.heap.size) : IsW T B w.heap.size none [] (w.alloc (.cells #[.slice none 0 0] T)) :=
  ⟨hB, by simp, .slice none 0 0, heap_alloc_new w _, rfl, World.ownsRow_nil _ _ _ _⟩
set_option maxHeartbeats 1600000 in
set_option maxRecDepth 100000 in
theorem clone_any (B : Nat) (v : Value) (l : List UInt8) (w : World) (hown : w.ownsRow B 5 1 v l.length (Lib.byteCells l)) (hl : l.length ≤ 70368744177664) :
    Calls Try.prog 54 #[v] w fun e w' => ∃ v', e = .returned v' ∧ w'.ownsRow w.heap.size 5 1 v' l.length (Lib.byteCells l) ∧ Keeps (fun _ => False) w w' := by
  obtain ⟨i0, hi, hz0, hz1, hz2⟩ := info_parts info8
  have hkeep := hown
  rcases hown.2 with ⟨rfl, h0⟩ | ⟨g, cap, cur, rfl, hb, hh, hr⟩
  · have hl0 : l = [] := List.length_eq_zero_iff.1 h0
    subst hl0
    have hnil := fun w => Lib.run_eql_slice_nil (P := Try.prog) w 30 5 none 0 0 0 0 Try.underlying30
    go_enter Try.func54, Try.ntmps54
    go_wp2
    go_ret
    exact ⟨_, rfl, World.ownsRow_nil _ _ _ _, Keeps.refl _ _⟩
  · have hnil := fun w => Lib.run_eql_slice_nil (P := Try.prog) w 30 5 (some ⟨g, 0, none⟩) l.length cap 0 0 Try.underlying30
    have hown0 : (w.alloc (.cells #[] 5)).ownsRow w.heap.size 5 1 (.slice (some ⟨w.heap.size, 0, none⟩) 0 0) 0 [] := World.ownsRow_made w #[] 0 (Nat.le_refl _) (Nat.zero_le _) rfl
    have hcells : ∀ j u, (Lib.byteCells l)[j]? = some u → (w.alloc (.cells #[] 5)).cell? ((⟨g, 0, none⟩ : Addr).add j) = some u := (hkeep.alloc _).cells rfl
    go_enter Try.func54, Try.ntmps54
    go_wp2_with (at_builtin; refine wpList_append_own _ rfl _ _ _ rfl w.heap.size 5 i0 (.int .u8 0) 1 1 Try.underlying30 hi hz0 hz1 hz2 rfl (by decide) _ _ _ (by rfl) hown0 ⟨g, 0, none⟩ l.length cap (Lib.byteCells l) (by rfl) (by simp [Lib.byteCells]) hcells (by intro u hu; simp only [Lib.byteCells, List.mem_map] at hu; obtain ⟨x, _, rfl⟩ := hu; rfl) (by unfold maxLen; omega) (by omega) (by simp) ?_; intro v' w1 hown1 hgrow _; refine Hid.out ?_)
    refine aside ?_
    rw [Nat.zero_add, List.nil_append] at hown1
    have HO := aside hown1
    have HK : Keeps (fun _ => False) w w1 := ((Keeps.refl _ w).alloc _).grown hgrow (fun k hk hlt => by simp [Value.ownBlock] at hk; omega)
    clear hown1 hgrow
    go_wp2
    go_ret
    exact ⟨_, rfl, HO.out, HK⟩
set_option maxHeartbeats 400000 in
theorem bytes_any (B b : Nat) (g : Option Nat) (l : List UInt8) (w : World) (hW : IsW 86 B b g l w) (hl : l.length ≤ 70368744177664) :
    Calls Try.prog 25 #[.pointer (some ⟨b, 0, none⟩)] w fun e w' => ∃ v', e = .returned v' ∧ w'.ownsRow w.heap.size 5 1 v' l.length (Lib.byteCells l) ∧ Keeps (fun _ => False) w w' := by
  obtain ⟨hBb, hgb, v, hh, rfl, hown⟩ := hW
  have hc := cell_one hh
  go_enter Try.func25, Try.ntmps25
  go_wp2_with (go_at_call 54; refine (clone_any B v l _ hown hl).mono ?_; rintro e w' ⟨v', rfl, ho, hk⟩)
  go_ret
  exact ⟨_, rfl, ho, hk⟩
end Go.Proofs.Ytbnppmkdhnpdfaa

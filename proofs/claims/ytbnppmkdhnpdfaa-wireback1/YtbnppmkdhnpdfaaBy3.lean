/-
  Get, the code's and the document's own: what it answers and leaves.
  Get, the document's own.
  Get as one plain function of the bytes, the place and the error: both keep to it.
-/
import Derived.Test.YtbnppmkdhnpdfaaBy1
import Derived.Test.YtbnppmkdhnpdfaaBy2
namespace Go.Proofs.Ytbnppmkdhnpdfaa
open Go.RowKit
set_option linter.unusedVariables false
section
variable {br : Nat} {s : ByteArray} {l : List UInt8} {p p' : Nat} {e e' : Int} {w w' : World}
theorem OneR.lt (h : OneR br s l p e w) : br < w.heap.size := h.code.lt
theorem OneR.keep {S : Nat → Prop} (h : OneR br s l p e w) (k : Keeps S w w') (hb : ¬ S br) : OneR br s l p e w' := ⟨h.code.keep k hb, h.text, h.le, h.small⟩
theorem one_text_at {K : ByteArray} {t : List UInt8} {most : Int} (hK : (⟨t.toArray⟩ : ByteArray) = K) (ht : textSt l p e most = (t, p', e')) (h : OneR br s l p e w) :
    Calls Try.prog 92 #[.pointer (some ⟨br, 0, none⟩), .int .i64 most] w fun r w' => r = .returned (.string K) ∧ OneR br s l p' e' w' ∧ Keeps (fun x => x = br) w w' := by
  have h1 := one_text w most h
  have h2 := textSt_le l p e most h.le
  rw [ht] at h1 h2
  subst hK
  exact h1.mono (by rintro r w' ⟨rfl, h3, h4⟩; exact ⟨rfl, ⟨h3, h.text, h2, h.small⟩, h4⟩)
theorem one_num_at {n most : Int} (ht : numSt l p e most = (n, p', e')) (h : OneR br s l p e w) :
    Calls Try.prog 56 #[.pointer (some ⟨br, 0, none⟩), .int .i64 most] w fun r w' => r = .returned (.int .i64 n) ∧ OneR br s l p' e' w' ∧ Keeps (fun x => x = br) w w' := by
  have h1 := one_num w most h
  have h2 := numSt_le l p e most h.le
  rw [ht] at h1 h2
  exact h1.mono (by rintro r w' ⟨rfl, h3, h4⟩; exact ⟨rfl, ⟨h3, h.text, h2, h.small⟩, h4⟩)
theorem one_flag_at {d : Bool} (ht : flagSt l p e = (d, p', e')) (h : OneR br s l p e w) :
    Calls Try.prog 93 #[.pointer (some ⟨br, 0, none⟩)] w fun r w' => r = .returned (.bool d) ∧ OneR br s l p' e' w' ∧ Keeps (fun x => x = br) w w' := by
  have h1 := one_flag w h
  have h2 := flagSt_le l p e h.le
  rw [ht] at h1 h2
  exact h1.mono (by rintro r w' ⟨rfl, h3, h4⟩; exact ⟨rfl, ⟨h3, h.text, h2, h.small⟩, h4⟩)
theorem one_fail_at {x e' : Int} (ht : failOf e x = e') (h : OneR br s l p e w) :
    Calls Try.prog 77 #[.pointer (some ⟨br, 0, none⟩), .int .i64 x] w fun r w' => r = .returned (.tuple #[]) ∧ OneR br s l p e' w' ∧ Keeps (fun x => x = br) w w' := by
  subst ht
  exact (rfail_any br s (p : Int) e x w h.code).mono (by rintro r w' ⟨rfl, h3, h4⟩; exact ⟨rfl, ⟨h3, h.text, h.le, h.small⟩, h4⟩)
theorem one_err_at (h : OneR br s l p e w) : Calls Try.prog 78 #[.pointer (some ⟨br, 0, none⟩)] w fun r w' => r = .returned (.int .i64 e) ∧ w' = w := rerr_any br s (p : Int) e w h.code
end
section
variable {B br : Nat} {v : Value} {l : List UInt8} {p p' : Nat} {e e' : Int} {w w' : World}
end
theorem one_set {w W : World} {br : Nat} {s : ByteArray} {l : List UInt8} {p : Nat} {e : Int} {i2 i3 : Nat} {cs : Array Value} {o : Obj} (h : OneR br s l p e W) (kE : W.heap[i3]? = some (.cells cs 50 (0, 0))) (kR : W.heap[i2]? = some o) (kk : Keeps (fun x => x = br) w W) (h3 : w.heap.size ≤ i3) (hb : br < w.heap.size) (h23 : i2 ≠ i3) (j : Nat) (u : Value) :
    OneR br s l p e (W.setCell ⟨i3, j, none⟩ u) ∧ (W.setCell ⟨i3, j, none⟩ u).heap[i3]? = some (.cells (cs.setIfInBounds j u) 50 (0, 0)) ∧ (W.setCell ⟨i3, j, none⟩ u).heap[i2]? = some o ∧ Keeps (fun x => x = br) w (W.setCell ⟨i3, j, none⟩ u) := by
  have k := (Keeps.refl (fun x => x = i3) W).setCell (p := ⟨i3, j, none⟩) (fun _ => rfl) u
  exact ⟨h.keep k (fun x => by omega), heap_setCell_same W i3 j _ _ u kE, (k.block i2 (Array.getElem?_eq_some_iff.1 kR).1 h23).trans kR, kk.setCell (p := ⟨i3, j, none⟩) (fun h => by simp only at h; omega) u⟩
theorem one_done {w W : World} {br : Nat} {s : ByteArray} {l : List UInt8} {p : Nat} {e : Int} {u0 u1 u2 u3 u4 : Value} (h : OneR br s l p e W) (kk : Keeps (fun x => x = br) w W) (hb : br < w.heap.size) :
    OneR br s l p e (((((W.setCell ⟨w.heap.size, 0, none⟩ u0).setCell ⟨w.heap.size, 1, none⟩ u1).setCell ⟨w.heap.size, 2, none⟩ u2).setCell ⟨w.heap.size, 3, none⟩ u3).setCell ⟨w.heap.size, 4, none⟩ u4) ∧ Keeps (fun x => x = br) w (((((W.setCell ⟨w.heap.size, 0, none⟩ u0).setCell ⟨w.heap.size, 1, none⟩ u1).setCell ⟨w.heap.size, 2, none⟩ u2).setCell ⟨w.heap.size, 3, none⟩ u3).setCell ⟨w.heap.size, 4, none⟩ u4) := by
  have k := (((((Keeps.refl (fun x => x = w.heap.size) W).setCell (p := ⟨w.heap.size, 0, none⟩) (fun _ => rfl) u0).setCell (p := ⟨w.heap.size, 1, none⟩) (fun _ => rfl) u1).setCell (p := ⟨w.heap.size, 2, none⟩) (fun _ => rfl) u2).setCell (p := ⟨w.heap.size, 3, none⟩) (fun _ => rfl) u3).setCell (p := ⟨w.heap.size, 4, none⟩) (fun _ => rfl) u4
  exact ⟨h.keep k (fun x => by omega), ((((kk.setCell (p := ⟨w.heap.size, 0, none⟩) (fun h => by simp at h) u0).setCell (p := ⟨w.heap.size, 1, none⟩) (fun h => by simp at h) u1).setCell (p := ⟨w.heap.size, 2, none⟩) (fun h => by simp at h) u2).setCell (p := ⟨w.heap.size, 3, none⟩) (fun h => by simp at h) u3).setCell (p := ⟨w.heap.size, 4, none⟩) (fun h => by simp at h) u4⟩
set_option maxRecDepth 100000 in
set_option maxHeartbeats 3200000 in
theorem get_000 (br : Nat) (s : ByteArray) (l : List UInt8) (p : Nat) (e : Int) (K : ByteArray) (tk : List UInt8) (c n : Int) (d : Bool) (V : ByteArray) (tv : List UInt8) (p1 p2 p3 p4 p5 : Nat) (e1 e2 e3 e4 e5 e6 : Int) (w : World) (h : OneR br s l p e w) (hK : (⟨tk.toArray⟩ : ByteArray) = K) (h1 : textSt l p e 16 = (tk, p1, e1)) (h2 : numSt l p1 e1 1099511627776 = (c, p2, e2)) (h3 : numSt l p2 e2 7 = (n, p3, e3)) (h4 : flagSt l p3 e3 = (false, p4, e4)) (hV : (⟨tv.toArray⟩ : ByteArray) = V) (h5 : textSt l p4 e4 32 = (tv, p5, e5)) (hc : (c == 0) = false) (he : e5 = 0) :
    Calls Try.prog 95 #[.pointer (some ⟨br, 0, none⟩)] w fun r w' => r = .returned (.agg #[.string K, .int .i64 c, .int .i64 n, .string V, .bool false]) ∧ OneR br s l p5 e5 w' ∧ Keeps (fun x => x = br) w w' := by
  have C1 := aside (fun w (h : OneR br s l p e w) => one_text_at (K := K) hK h1 h)
  have C2 := aside (fun w (h : OneR br s l p1 e1 w) => one_num_at h2 h)
  have C3 := aside (fun w (h : OneR br s l p2 e2 w) => one_num_at h3 h)
  have C4 := aside (fun w (h : OneR br s l p3 e3 w) => one_flag_at h4 h)
  have C5 := aside (fun w (h : OneR br s l p4 e4 w) => one_text_at (K := V) hV h5 h)
  have C7 := aside (fun w (h : OneR br s l p5 e5 w) => one_err_at h)
  have HE := aside he
  have hb := h.lt
  have H := aside h
  clear h hK h1 h2 h3 h4 hV h5 he
  have Z2 := heap_alloc_new w (.cells #[.string ⟨#[]⟩, .int .i64 0, .int .i64 0, .string ⟨#[]⟩, .bool false] 50)
  have Z3 := heap_alloc_new (w.alloc (.cells #[.string ⟨#[]⟩, .int .i64 0, .int .i64 0, .string ⟨#[]⟩, .bool false] 50)) (.cells #[.string ⟨#[]⟩, .int .i64 0, .int .i64 0, .string ⟨#[]⟩, .bool false] 50)
  rw [World.size_alloc] at Z3
  have kR := aside (blk_on Z2 (bnew _ (.cells #[.string ⟨#[]⟩, .int .i64 0, .int .i64 0, .string ⟨#[]⟩, .bool false] 50)))
  have kE := aside Z3
  have kk := aside (((Keeps.refl (fun x => x = br) w).alloc (.cells #[.string ⟨#[]⟩, .int .i64 0, .int .i64 0, .string ⟨#[]⟩, .bool false] 50)).alloc (.cells #[.string ⟨#[]⟩, .int .i64 0, .int .i64 0, .string ⟨#[]⟩, .bool false] 50))
  have RR := aside (H.out.keep (((Keeps.refl (fun _ => False) w).alloc (.cells #[.string ⟨#[]⟩, .int .i64 0, .int .i64 0, .string ⟨#[]⟩, .bool false] 50)).alloc (.cells #[.string ⟨#[]⟩, .int .i64 0, .int .i64 0, .string ⟨#[]⟩, .bool false] 50)) (fun h => h))
  have HB := aside hb
  clear Z2 Z3 H hb
  go_enter Try.func95, Try.ntmps95
  go_wp2_with fail
  refine (C1.out _ RR.out).mono ?_
  rintro r w1 ⟨rfl, R1, k1⟩
  have kE' := (k1.block (w.heap.size + 1) (Array.getElem?_eq_some_iff.1 kE.out).1 (fun h => by have := HB.out; omega)).trans kE.out
  have kR' := (k1.block w.heap.size (Array.getElem?_eq_some_iff.1 kR.out).1 (fun h => by have := HB.out; omega)).trans kR.out
  have kk' := kk.out.trans k1
  clear kE kR kk RR k1
  obtain ⟨⟨s0, s1, s2, s3, s4⟩, f0, f1, f2, f3, f4⟩ := quintF kE'
  obtain ⟨R1', kE2, kR2, kk2⟩ := one_set (cs := _) R1 kE' kR' kk' (Nat.le_succ _) HB.out (by omega) 0 (.string K)
  have kE3 : (w1.setCell ⟨w.heap.size + 1, 0, none⟩ (.string K)).heap[w.heap.size + 1]? = some (.cells #[.string K, .int .i64 0, .int .i64 0, .string ⟨#[]⟩, .bool false] 50 (0, 0)) := kE2
  have kE := aside kE3
  have kR := aside kR2
  have kk := aside kk2
  have RR := aside R1'
  clear kE' kR' kk' kE2 kE3 kR2 kk2 R1 R1'
  go_wp2_with fail
  refine (C2.out _ RR.out).mono ?_
  rintro r w2 ⟨rfl, R2, k2⟩
  have kE' := (k2.block (w.heap.size + 1) (Array.getElem?_eq_some_iff.1 kE.out).1 (fun h => by have := HB.out; omega)).trans kE.out
  have kR' := (k2.block w.heap.size (Array.getElem?_eq_some_iff.1 kR.out).1 (fun h => by have := HB.out; omega)).trans kR.out
  have kk' := kk.out.trans k2
  clear s0 s1 s2 s3 s4 f0 f1 f2 f3 f4
  clear kE kR kk RR k2
  obtain ⟨⟨s0, s1, s2, s3, s4⟩, f0, f1, f2, f3, f4⟩ := quintF kE'
  obtain ⟨R2', kE2, kR2, kk2⟩ := one_set (cs := _) R2 kE' kR' kk' (Nat.le_succ _) HB.out (by omega) 1 (.int .i64 c)
  have kE3 : (w2.setCell ⟨w.heap.size + 1, 1, none⟩ (.int .i64 c)).heap[w.heap.size + 1]? = some (.cells #[.string K, .int .i64 c, .int .i64 0, .string ⟨#[]⟩, .bool false] 50 (0, 0)) := kE2
  have kE := aside kE3
  have kR := aside kR2
  have kk := aside kk2
  have RR := aside R2'
  clear kE' kR' kk' kE2 kE3 kR2 kk2 R2 R2'
  go_wp2_with fail
  refine (C3.out _ RR.out).mono ?_
  rintro r w3 ⟨rfl, R3, k3⟩
  have kE' := (k3.block (w.heap.size + 1) (Array.getElem?_eq_some_iff.1 kE.out).1 (fun h => by have := HB.out; omega)).trans kE.out
  have kR' := (k3.block w.heap.size (Array.getElem?_eq_some_iff.1 kR.out).1 (fun h => by have := HB.out; omega)).trans kR.out
  have kk' := kk.out.trans k3
  clear s0 s1 s2 s3 s4 f0 f1 f2 f3 f4
  clear kE kR kk RR k3
  obtain ⟨⟨s0, s1, s2, s3, s4⟩, f0, f1, f2, f3, f4⟩ := quintF kE'
  obtain ⟨R3', kE2, kR2, kk2⟩ := one_set (cs := _) R3 kE' kR' kk' (Nat.le_succ _) HB.out (by omega) 2 (.int .i64 n)
  have kE3 : (w3.setCell ⟨w.heap.size + 1, 2, none⟩ (.int .i64 n)).heap[w.heap.size + 1]? = some (.cells #[.string K, .int .i64 c, .int .i64 n, .string ⟨#[]⟩, .bool false] 50 (0, 0)) := kE2
  have kE := aside kE3
  have kR := aside kR2
  have kk := aside kk2
  have RR := aside R3'
  clear kE' kR' kk' kE2 kE3 kR2 kk2 R3 R3'
  go_wp2_with fail
  refine (C4.out _ RR.out).mono ?_
  rintro r w4 ⟨rfl, R4, k4⟩
  have kE' := (k4.block (w.heap.size + 1) (Array.getElem?_eq_some_iff.1 kE.out).1 (fun h => by have := HB.out; omega)).trans kE.out
  have kR' := (k4.block w.heap.size (Array.getElem?_eq_some_iff.1 kR.out).1 (fun h => by have := HB.out; omega)).trans kR.out
  have kk' := kk.out.trans k4
  clear s0 s1 s2 s3 s4 f0 f1 f2 f3 f4
  clear kE kR kk RR k4
  obtain ⟨⟨s0, s1, s2, s3, s4⟩, f0, f1, f2, f3, f4⟩ := quintF kE'
  obtain ⟨R4', kE2, kR2, kk2⟩ := one_set (cs := _) R4 kE' kR' kk' (Nat.le_succ _) HB.out (by omega) 4 (.bool false)
  have kE3 : (w4.setCell ⟨w.heap.size + 1, 4, none⟩ (.bool false)).heap[w.heap.size + 1]? = some (.cells #[.string K, .int .i64 c, .int .i64 n, .string ⟨#[]⟩, .bool false] 50 (0, 0)) := kE2
  have kE := aside kE3
  have kR := aside kR2
  have kk := aside kk2
  have RR := aside R4'
  clear kE' kR' kk' kE2 kE3 kR2 kk2 R4 R4'
  go_wp2_with fail
  refine (C5.out _ RR.out).mono ?_
  rintro r w5 ⟨rfl, R5, k5⟩
  have kE' := (k5.block (w.heap.size + 1) (Array.getElem?_eq_some_iff.1 kE.out).1 (fun h => by have := HB.out; omega)).trans kE.out
  have kR' := (k5.block w.heap.size (Array.getElem?_eq_some_iff.1 kR.out).1 (fun h => by have := HB.out; omega)).trans kR.out
  have kk' := kk.out.trans k5
  clear s0 s1 s2 s3 s4 f0 f1 f2 f3 f4
  clear kE kR kk RR k5
  obtain ⟨⟨s0, s1, s2, s3, s4⟩, f0, f1, f2, f3, f4⟩ := quintF kE'
  obtain ⟨R5', kE2, kR2, kk2⟩ := one_set (cs := _) R5 kE' kR' kk' (Nat.le_succ _) HB.out (by omega) 3 (.string V)
  have kE3 : (w5.setCell ⟨w.heap.size + 1, 3, none⟩ (.string V)).heap[w.heap.size + 1]? = some (.cells #[.string K, .int .i64 c, .int .i64 n, .string V, .bool false] 50 (0, 0)) := kE2
  have kE := aside kE3
  have kR := aside kR2
  have kk := aside kk2
  have RR := aside R5'
  clear kE' kR' kk' kE2 kE3 kR2 kk2 R5 R5'
  obtain ⟨⟨x0, x1, x2, x3, x4⟩, y0, y1, y2, y3, y4⟩ := quintF kE.out
  go_wp2_with fail
  refine (C7.out _ RR.out).mono ?_
  rintro r w9 ⟨rfl, hw9⟩
  subst hw9
  obtain ⟨⟨t0, t1, t2, t3, t4⟩, g0, g1, g2, g3, g4⟩ := quintF kR.out
  rw [HE.out]
  go_wp2
  refine bodyPost_ret (v := .agg #[.string K, .int .i64 c, .int .i64 n, .string V, .bool false]) (by simp [results, Try.results95, go_sem, t0, t1, t2, t3, t4]) rfl ⟨rfl, ?_⟩
  exact one_done (RR.out) kk.out HB.out
set_option maxRecDepth 100000 in
set_option maxHeartbeats 3200000 in
theorem get_001 (br : Nat) (s : ByteArray) (l : List UInt8) (p : Nat) (e : Int) (K : ByteArray) (tk : List UInt8) (c n : Int) (d : Bool) (V : ByteArray) (tv : List UInt8) (p1 p2 p3 p4 p5 : Nat) (e1 e2 e3 e4 e5 e6 : Int) (w : World) (h : OneR br s l p e w) (hK : (⟨tk.toArray⟩ : ByteArray) = K) (h1 : textSt l p e 16 = (tk, p1, e1)) (h2 : numSt l p1 e1 1099511627776 = (c, p2, e2)) (h3 : numSt l p2 e2 7 = (n, p3, e3)) (h4 : flagSt l p3 e3 = (false, p4, e4)) (hV : (⟨tv.toArray⟩ : ByteArray) = V) (h5 : textSt l p4 e4 32 = (tv, p5, e5)) (hc : (c == 0) = false) (he : (e5 != 0) = true) :
    Calls Try.prog 95 #[.pointer (some ⟨br, 0, none⟩)] w fun r w' => r = .returned (.agg #[.string ⟨#[]⟩, .int .i64 0, .int .i64 0, .string ⟨#[]⟩, .bool false]) ∧ OneR br s l p5 e5 w' ∧ Keeps (fun x => x = br) w w' := by
  have C1 := aside (fun w (h : OneR br s l p e w) => one_text_at (K := K) hK h1 h)
  have C2 := aside (fun w (h : OneR br s l p1 e1 w) => one_num_at h2 h)
  have C3 := aside (fun w (h : OneR br s l p2 e2 w) => one_num_at h3 h)
  have C4 := aside (fun w (h : OneR br s l p3 e3 w) => one_flag_at h4 h)
  have C5 := aside (fun w (h : OneR br s l p4 e4 w) => one_text_at (K := V) hV h5 h)
  have C7 := aside (fun w (h : OneR br s l p5 e5 w) => one_err_at h)
  have hb := h.lt
  have H := aside h
  clear h hK h1 h2 h3 h4 hV h5
  have Z2 := heap_alloc_new w (.cells #[.string ⟨#[]⟩, .int .i64 0, .int .i64 0, .string ⟨#[]⟩, .bool false] 50)
  have Z3 := heap_alloc_new (w.alloc (.cells #[.string ⟨#[]⟩, .int .i64 0, .int .i64 0, .string ⟨#[]⟩, .bool false] 50)) (.cells #[.string ⟨#[]⟩, .int .i64 0, .int .i64 0, .string ⟨#[]⟩, .bool false] 50)
  rw [World.size_alloc] at Z3
  have kR := aside (blk_on Z2 (bnew _ (.cells #[.string ⟨#[]⟩, .int .i64 0, .int .i64 0, .string ⟨#[]⟩, .bool false] 50)))
  have kE := aside Z3
  have kk := aside (((Keeps.refl (fun x => x = br) w).alloc (.cells #[.string ⟨#[]⟩, .int .i64 0, .int .i64 0, .string ⟨#[]⟩, .bool false] 50)).alloc (.cells #[.string ⟨#[]⟩, .int .i64 0, .int .i64 0, .string ⟨#[]⟩, .bool false] 50))
  have RR := aside (H.out.keep (((Keeps.refl (fun _ => False) w).alloc (.cells #[.string ⟨#[]⟩, .int .i64 0, .int .i64 0, .string ⟨#[]⟩, .bool false] 50)).alloc (.cells #[.string ⟨#[]⟩, .int .i64 0, .int .i64 0, .string ⟨#[]⟩, .bool false] 50)) (fun h => h))
  have HB := aside hb
  clear Z2 Z3 H hb
  go_enter Try.func95, Try.ntmps95
  go_wp2_with fail
  refine (C1.out _ RR.out).mono ?_
  rintro r w1 ⟨rfl, R1, k1⟩
  have kE' := (k1.block (w.heap.size + 1) (Array.getElem?_eq_some_iff.1 kE.out).1 (fun h => by have := HB.out; omega)).trans kE.out
  have kR' := (k1.block w.heap.size (Array.getElem?_eq_some_iff.1 kR.out).1 (fun h => by have := HB.out; omega)).trans kR.out
  have kk' := kk.out.trans k1
  clear kE kR kk RR k1
  obtain ⟨⟨s0, s1, s2, s3, s4⟩, f0, f1, f2, f3, f4⟩ := quintF kE'
  obtain ⟨R1', kE2, kR2, kk2⟩ := one_set (cs := _) R1 kE' kR' kk' (Nat.le_succ _) HB.out (by omega) 0 (.string K)
  have kE3 : (w1.setCell ⟨w.heap.size + 1, 0, none⟩ (.string K)).heap[w.heap.size + 1]? = some (.cells #[.string K, .int .i64 0, .int .i64 0, .string ⟨#[]⟩, .bool false] 50 (0, 0)) := kE2
  have kE := aside kE3
  have kR := aside kR2
  have kk := aside kk2
  have RR := aside R1'
  clear kE' kR' kk' kE2 kE3 kR2 kk2 R1 R1'
  go_wp2_with fail
  refine (C2.out _ RR.out).mono ?_
  rintro r w2 ⟨rfl, R2, k2⟩
  have kE' := (k2.block (w.heap.size + 1) (Array.getElem?_eq_some_iff.1 kE.out).1 (fun h => by have := HB.out; omega)).trans kE.out
  have kR' := (k2.block w.heap.size (Array.getElem?_eq_some_iff.1 kR.out).1 (fun h => by have := HB.out; omega)).trans kR.out
  have kk' := kk.out.trans k2
  clear s0 s1 s2 s3 s4 f0 f1 f2 f3 f4
  clear kE kR kk RR k2
  obtain ⟨⟨s0, s1, s2, s3, s4⟩, f0, f1, f2, f3, f4⟩ := quintF kE'
  obtain ⟨R2', kE2, kR2, kk2⟩ := one_set (cs := _) R2 kE' kR' kk' (Nat.le_succ _) HB.out (by omega) 1 (.int .i64 c)
  have kE3 : (w2.setCell ⟨w.heap.size + 1, 1, none⟩ (.int .i64 c)).heap[w.heap.size + 1]? = some (.cells #[.string K, .int .i64 c, .int .i64 0, .string ⟨#[]⟩, .bool false] 50 (0, 0)) := kE2
  have kE := aside kE3
  have kR := aside kR2
  have kk := aside kk2
  have RR := aside R2'
  clear kE' kR' kk' kE2 kE3 kR2 kk2 R2 R2'
  go_wp2_with fail
  refine (C3.out _ RR.out).mono ?_
  rintro r w3 ⟨rfl, R3, k3⟩
  have kE' := (k3.block (w.heap.size + 1) (Array.getElem?_eq_some_iff.1 kE.out).1 (fun h => by have := HB.out; omega)).trans kE.out
  have kR' := (k3.block w.heap.size (Array.getElem?_eq_some_iff.1 kR.out).1 (fun h => by have := HB.out; omega)).trans kR.out
  have kk' := kk.out.trans k3
  clear s0 s1 s2 s3 s4 f0 f1 f2 f3 f4
  clear kE kR kk RR k3
  obtain ⟨⟨s0, s1, s2, s3, s4⟩, f0, f1, f2, f3, f4⟩ := quintF kE'
  obtain ⟨R3', kE2, kR2, kk2⟩ := one_set (cs := _) R3 kE' kR' kk' (Nat.le_succ _) HB.out (by omega) 2 (.int .i64 n)
  have kE3 : (w3.setCell ⟨w.heap.size + 1, 2, none⟩ (.int .i64 n)).heap[w.heap.size + 1]? = some (.cells #[.string K, .int .i64 c, .int .i64 n, .string ⟨#[]⟩, .bool false] 50 (0, 0)) := kE2
  have kE := aside kE3
  have kR := aside kR2
  have kk := aside kk2
  have RR := aside R3'
  clear kE' kR' kk' kE2 kE3 kR2 kk2 R3 R3'
  go_wp2_with fail
  refine (C4.out _ RR.out).mono ?_
  rintro r w4 ⟨rfl, R4, k4⟩
  have kE' := (k4.block (w.heap.size + 1) (Array.getElem?_eq_some_iff.1 kE.out).1 (fun h => by have := HB.out; omega)).trans kE.out
  have kR' := (k4.block w.heap.size (Array.getElem?_eq_some_iff.1 kR.out).1 (fun h => by have := HB.out; omega)).trans kR.out
  have kk' := kk.out.trans k4
  clear s0 s1 s2 s3 s4 f0 f1 f2 f3 f4
  clear kE kR kk RR k4
  obtain ⟨⟨s0, s1, s2, s3, s4⟩, f0, f1, f2, f3, f4⟩ := quintF kE'
  obtain ⟨R4', kE2, kR2, kk2⟩ := one_set (cs := _) R4 kE' kR' kk' (Nat.le_succ _) HB.out (by omega) 4 (.bool false)
  have kE3 : (w4.setCell ⟨w.heap.size + 1, 4, none⟩ (.bool false)).heap[w.heap.size + 1]? = some (.cells #[.string K, .int .i64 c, .int .i64 n, .string ⟨#[]⟩, .bool false] 50 (0, 0)) := kE2
  have kE := aside kE3
  have kR := aside kR2
  have kk := aside kk2
  have RR := aside R4'
  clear kE' kR' kk' kE2 kE3 kR2 kk2 R4 R4'
  go_wp2_with fail
  refine (C5.out _ RR.out).mono ?_
  rintro r w5 ⟨rfl, R5, k5⟩
  have kE' := (k5.block (w.heap.size + 1) (Array.getElem?_eq_some_iff.1 kE.out).1 (fun h => by have := HB.out; omega)).trans kE.out
  have kR' := (k5.block w.heap.size (Array.getElem?_eq_some_iff.1 kR.out).1 (fun h => by have := HB.out; omega)).trans kR.out
  have kk' := kk.out.trans k5
  clear s0 s1 s2 s3 s4 f0 f1 f2 f3 f4
  clear kE kR kk RR k5
  obtain ⟨⟨s0, s1, s2, s3, s4⟩, f0, f1, f2, f3, f4⟩ := quintF kE'
  obtain ⟨R5', kE2, kR2, kk2⟩ := one_set (cs := _) R5 kE' kR' kk' (Nat.le_succ _) HB.out (by omega) 3 (.string V)
  have kE3 : (w5.setCell ⟨w.heap.size + 1, 3, none⟩ (.string V)).heap[w.heap.size + 1]? = some (.cells #[.string K, .int .i64 c, .int .i64 n, .string V, .bool false] 50 (0, 0)) := kE2
  have kE := aside kE3
  have kR := aside kR2
  have kk := aside kk2
  have RR := aside R5'
  clear kE' kR' kk' kE2 kE3 kR2 kk2 R5 R5'
  obtain ⟨⟨x0, x1, x2, x3, x4⟩, y0, y1, y2, y3, y4⟩ := quintF kE.out
  go_wp2_with fail
  refine (C7.out _ RR.out).mono ?_
  rintro r w9 ⟨rfl, hw9⟩
  subst hw9
  obtain ⟨⟨t0, t1, t2, t3, t4⟩, g0, g1, g2, g3, g4⟩ := quintF kR.out
  go_wp2
  refine bodyPost_ret (v := .agg #[.string ⟨#[]⟩, .int .i64 0, .int .i64 0, .string ⟨#[]⟩, .bool false]) (by simp [results, Try.results95, go_sem, t0, t1, t2, t3, t4]) rfl ⟨rfl, ?_⟩
  exact one_done RR.out kk.out HB.out
set_option maxRecDepth 100000 in
set_option maxHeartbeats 3200000 in
theorem get_011 (br : Nat) (s : ByteArray) (l : List UInt8) (p : Nat) (e : Int) (K : ByteArray) (tk : List UInt8) (c n : Int) (d : Bool) (V : ByteArray) (tv : List UInt8) (p1 p2 p3 p4 p5 : Nat) (e1 e2 e3 e4 e5 e6 : Int) (w : World) (h : OneR br s l p e w) (hK : (⟨tk.toArray⟩ : ByteArray) = K) (h1 : textSt l p e 16 = (tk, p1, e1)) (h2 : numSt l p1 e1 1099511627776 = (c, p2, e2)) (h3 : numSt l p2 e2 7 = (n, p3, e3)) (h4 : flagSt l p3 e3 = (false, p4, e4)) (hV : (⟨tv.toArray⟩ : ByteArray) = V) (h5 : textSt l p4 e4 32 = (tv, p5, e5)) (hc : c = 0) (h6 : failOf e5 30 = e6) (he : (e6 != 0) = true) :
    Calls Try.prog 95 #[.pointer (some ⟨br, 0, none⟩)] w fun r w' => r = .returned (.agg #[.string ⟨#[]⟩, .int .i64 0, .int .i64 0, .string ⟨#[]⟩, .bool false]) ∧ OneR br s l p5 e6 w' ∧ Keeps (fun x => x = br) w w' := by
  have C1 := aside (fun w (h : OneR br s l p e w) => one_text_at (K := K) hK h1 h)
  have C2 := aside (fun w (h : OneR br s l p1 e1 w) => one_num_at h2 h)
  have C3 := aside (fun w (h : OneR br s l p2 e2 w) => one_num_at h3 h)
  have C4 := aside (fun w (h : OneR br s l p3 e3 w) => one_flag_at h4 h)
  have C5 := aside (fun w (h : OneR br s l p4 e4 w) => one_text_at (K := V) hV h5 h)
  have C6 := aside (fun w (h : OneR br s l p5 e5 w) => one_fail_at h6 h)
  have C7 := aside (fun w (h : OneR br s l p5 e6 w) => one_err_at h)
  subst hc
  have hb := h.lt
  have H := aside h
  clear h hK h1 h2 h3 h4 hV h5 h6
  have Z2 := heap_alloc_new w (.cells #[.string ⟨#[]⟩, .int .i64 0, .int .i64 0, .string ⟨#[]⟩, .bool false] 50)
  have Z3 := heap_alloc_new (w.alloc (.cells #[.string ⟨#[]⟩, .int .i64 0, .int .i64 0, .string ⟨#[]⟩, .bool false] 50)) (.cells #[.string ⟨#[]⟩, .int .i64 0, .int .i64 0, .string ⟨#[]⟩, .bool false] 50)
  rw [World.size_alloc] at Z3
  have kR := aside (blk_on Z2 (bnew _ (.cells #[.string ⟨#[]⟩, .int .i64 0, .int .i64 0, .string ⟨#[]⟩, .bool false] 50)))
  have kE := aside Z3
  have kk := aside (((Keeps.refl (fun x => x = br) w).alloc (.cells #[.string ⟨#[]⟩, .int .i64 0, .int .i64 0, .string ⟨#[]⟩, .bool false] 50)).alloc (.cells #[.string ⟨#[]⟩, .int .i64 0, .int .i64 0, .string ⟨#[]⟩, .bool false] 50))
  have RR := aside (H.out.keep (((Keeps.refl (fun _ => False) w).alloc (.cells #[.string ⟨#[]⟩, .int .i64 0, .int .i64 0, .string ⟨#[]⟩, .bool false] 50)).alloc (.cells #[.string ⟨#[]⟩, .int .i64 0, .int .i64 0, .string ⟨#[]⟩, .bool false] 50)) (fun h => h))
  have HB := aside hb
  clear Z2 Z3 H hb
  go_enter Try.func95, Try.ntmps95
  go_wp2_with fail
  refine (C1.out _ RR.out).mono ?_
  rintro r w1 ⟨rfl, R1, k1⟩
  have kE' := (k1.block (w.heap.size + 1) (Array.getElem?_eq_some_iff.1 kE.out).1 (fun h => by have := HB.out; omega)).trans kE.out
  have kR' := (k1.block w.heap.size (Array.getElem?_eq_some_iff.1 kR.out).1 (fun h => by have := HB.out; omega)).trans kR.out
  have kk' := kk.out.trans k1
  clear kE kR kk RR k1
  obtain ⟨⟨s0, s1, s2, s3, s4⟩, f0, f1, f2, f3, f4⟩ := quintF kE'
  obtain ⟨R1', kE2, kR2, kk2⟩ := one_set (cs := _) R1 kE' kR' kk' (Nat.le_succ _) HB.out (by omega) 0 (.string K)
  have kE3 : (w1.setCell ⟨w.heap.size + 1, 0, none⟩ (.string K)).heap[w.heap.size + 1]? = some (.cells #[.string K, .int .i64 0, .int .i64 0, .string ⟨#[]⟩, .bool false] 50 (0, 0)) := kE2
  have kE := aside kE3
  have kR := aside kR2
  have kk := aside kk2
  have RR := aside R1'
  clear kE' kR' kk' kE2 kE3 kR2 kk2 R1 R1'
  go_wp2_with fail
  refine (C2.out _ RR.out).mono ?_
  rintro r w2 ⟨rfl, R2, k2⟩
  have kE' := (k2.block (w.heap.size + 1) (Array.getElem?_eq_some_iff.1 kE.out).1 (fun h => by have := HB.out; omega)).trans kE.out
  have kR' := (k2.block w.heap.size (Array.getElem?_eq_some_iff.1 kR.out).1 (fun h => by have := HB.out; omega)).trans kR.out
  have kk' := kk.out.trans k2
  clear s0 s1 s2 s3 s4 f0 f1 f2 f3 f4
  clear kE kR kk RR k2
  obtain ⟨⟨s0, s1, s2, s3, s4⟩, f0, f1, f2, f3, f4⟩ := quintF kE'
  obtain ⟨R2', kE2, kR2, kk2⟩ := one_set (cs := _) R2 kE' kR' kk' (Nat.le_succ _) HB.out (by omega) 1 (.int .i64 0)
  have kE3 : (w2.setCell ⟨w.heap.size + 1, 1, none⟩ (.int .i64 0)).heap[w.heap.size + 1]? = some (.cells #[.string K, .int .i64 0, .int .i64 0, .string ⟨#[]⟩, .bool false] 50 (0, 0)) := kE2
  have kE := aside kE3
  have kR := aside kR2
  have kk := aside kk2
  have RR := aside R2'
  clear kE' kR' kk' kE2 kE3 kR2 kk2 R2 R2'
  go_wp2_with fail
  refine (C3.out _ RR.out).mono ?_
  rintro r w3 ⟨rfl, R3, k3⟩
  have kE' := (k3.block (w.heap.size + 1) (Array.getElem?_eq_some_iff.1 kE.out).1 (fun h => by have := HB.out; omega)).trans kE.out
  have kR' := (k3.block w.heap.size (Array.getElem?_eq_some_iff.1 kR.out).1 (fun h => by have := HB.out; omega)).trans kR.out
  have kk' := kk.out.trans k3
  clear s0 s1 s2 s3 s4 f0 f1 f2 f3 f4
  clear kE kR kk RR k3
  obtain ⟨⟨s0, s1, s2, s3, s4⟩, f0, f1, f2, f3, f4⟩ := quintF kE'
  obtain ⟨R3', kE2, kR2, kk2⟩ := one_set (cs := _) R3 kE' kR' kk' (Nat.le_succ _) HB.out (by omega) 2 (.int .i64 n)
  have kE3 : (w3.setCell ⟨w.heap.size + 1, 2, none⟩ (.int .i64 n)).heap[w.heap.size + 1]? = some (.cells #[.string K, .int .i64 0, .int .i64 n, .string ⟨#[]⟩, .bool false] 50 (0, 0)) := kE2
  have kE := aside kE3
  have kR := aside kR2
  have kk := aside kk2
  have RR := aside R3'
  clear kE' kR' kk' kE2 kE3 kR2 kk2 R3 R3'
  go_wp2_with fail
  refine (C4.out _ RR.out).mono ?_
  rintro r w4 ⟨rfl, R4, k4⟩
  have kE' := (k4.block (w.heap.size + 1) (Array.getElem?_eq_some_iff.1 kE.out).1 (fun h => by have := HB.out; omega)).trans kE.out
  have kR' := (k4.block w.heap.size (Array.getElem?_eq_some_iff.1 kR.out).1 (fun h => by have := HB.out; omega)).trans kR.out
  have kk' := kk.out.trans k4
  clear s0 s1 s2 s3 s4 f0 f1 f2 f3 f4
  clear kE kR kk RR k4
  obtain ⟨⟨s0, s1, s2, s3, s4⟩, f0, f1, f2, f3, f4⟩ := quintF kE'
  obtain ⟨R4', kE2, kR2, kk2⟩ := one_set (cs := _) R4 kE' kR' kk' (Nat.le_succ _) HB.out (by omega) 4 (.bool false)
  have kE3 : (w4.setCell ⟨w.heap.size + 1, 4, none⟩ (.bool false)).heap[w.heap.size + 1]? = some (.cells #[.string K, .int .i64 0, .int .i64 n, .string ⟨#[]⟩, .bool false] 50 (0, 0)) := kE2
  have kE := aside kE3
  have kR := aside kR2
  have kk := aside kk2
  have RR := aside R4'
  clear kE' kR' kk' kE2 kE3 kR2 kk2 R4 R4'
  go_wp2_with fail
  refine (C5.out _ RR.out).mono ?_
  rintro r w5 ⟨rfl, R5, k5⟩
  have kE' := (k5.block (w.heap.size + 1) (Array.getElem?_eq_some_iff.1 kE.out).1 (fun h => by have := HB.out; omega)).trans kE.out
  have kR' := (k5.block w.heap.size (Array.getElem?_eq_some_iff.1 kR.out).1 (fun h => by have := HB.out; omega)).trans kR.out
  have kk' := kk.out.trans k5
  clear s0 s1 s2 s3 s4 f0 f1 f2 f3 f4
  clear kE kR kk RR k5
  obtain ⟨⟨s0, s1, s2, s3, s4⟩, f0, f1, f2, f3, f4⟩ := quintF kE'
  obtain ⟨R5', kE2, kR2, kk2⟩ := one_set (cs := _) R5 kE' kR' kk' (Nat.le_succ _) HB.out (by omega) 3 (.string V)
  have kE3 : (w5.setCell ⟨w.heap.size + 1, 3, none⟩ (.string V)).heap[w.heap.size + 1]? = some (.cells #[.string K, .int .i64 0, .int .i64 n, .string V, .bool false] 50 (0, 0)) := kE2
  have kE := aside kE3
  have kR := aside kR2
  have kk := aside kk2
  have RR := aside R5'
  clear kE' kR' kk' kE2 kE3 kR2 kk2 R5 R5'
  obtain ⟨⟨x0, x1, x2, x3, x4⟩, y0, y1, y2, y3, y4⟩ := quintF kE.out
  go_wp2_with fail
  refine (C6.out _ RR.out).mono ?_
  rintro r w8 ⟨rfl, R8, k8⟩
  have kE' := (k8.block (w.heap.size + 1) (Array.getElem?_eq_some_iff.1 kE.out).1 (fun h => by have := HB.out; omega)).trans kE.out
  have kR' := (k8.block w.heap.size (Array.getElem?_eq_some_iff.1 kR.out).1 (fun h => by have := HB.out; omega)).trans kR.out
  have kk' := kk.out.trans k8
  clear s0 s1 s2 s3 s4 f0 f1 f2 f3 f4 x0 x1 x2 x3 x4 y0 y1 y2 y3 y4
  clear kE kR kk RR k8
  have kE := aside kE'
  have kR := aside kR'
  have kk := aside kk'
  have RR := aside R8
  clear kE' kR' kk' R8
  obtain ⟨⟨s0, s1, s2, s3, s4⟩, f0, f1, f2, f3, f4⟩ := quintF kE.out
  go_wp2_with fail
  refine (C7.out _ RR.out).mono ?_
  rintro r w9 ⟨rfl, hw9⟩
  subst hw9
  obtain ⟨⟨t0, t1, t2, t3, t4⟩, g0, g1, g2, g3, g4⟩ := quintF kR.out
  go_wp2
  refine bodyPost_ret (v := .agg #[.string ⟨#[]⟩, .int .i64 0, .int .i64 0, .string ⟨#[]⟩, .bool false]) (by simp [results, Try.results95, go_sem, t0, t1, t2, t3, t4]) rfl ⟨rfl, ?_⟩
  exact one_done RR.out kk.out HB.out
set_option maxRecDepth 100000 in
set_option maxHeartbeats 3200000 in
theorem get_100 (br : Nat) (s : ByteArray) (l : List UInt8) (p : Nat) (e : Int) (K : ByteArray) (tk : List UInt8) (c n : Int) (d : Bool) (V : ByteArray) (tv : List UInt8) (p1 p2 p3 p4 p5 : Nat) (e1 e2 e3 e4 e5 e6 : Int) (w : World) (h : OneR br s l p e w) (hK : (⟨tk.toArray⟩ : ByteArray) = K) (h1 : textSt l p e 16 = (tk, p1, e1)) (h2 : numSt l p1 e1 1099511627776 = (c, p2, e2)) (h3 : numSt l p2 e2 7 = (n, p3, e3)) (h4 : flagSt l p3 e3 = (true, p4, e4)) (hc : (c == 0) = false) (he : e4 = 0) :
    Calls Try.prog 95 #[.pointer (some ⟨br, 0, none⟩)] w fun r w' => r = .returned (.agg #[.string K, .int .i64 c, .int .i64 n, .string ⟨#[]⟩, .bool true]) ∧ OneR br s l p4 e4 w' ∧ Keeps (fun x => x = br) w w' := by
  have C1 := aside (fun w (h : OneR br s l p e w) => one_text_at (K := K) hK h1 h)
  have C2 := aside (fun w (h : OneR br s l p1 e1 w) => one_num_at h2 h)
  have C3 := aside (fun w (h : OneR br s l p2 e2 w) => one_num_at h3 h)
  have C4 := aside (fun w (h : OneR br s l p3 e3 w) => one_flag_at h4 h)
  have C7 := aside (fun w (h : OneR br s l p4 e4 w) => one_err_at h)
  have HE := aside he
  have hb := h.lt
  have H := aside h
  clear h hK h1 h2 h3 h4 he
  have Z2 := heap_alloc_new w (.cells #[.string ⟨#[]⟩, .int .i64 0, .int .i64 0, .string ⟨#[]⟩, .bool false] 50)
  have Z3 := heap_alloc_new (w.alloc (.cells #[.string ⟨#[]⟩, .int .i64 0, .int .i64 0, .string ⟨#[]⟩, .bool false] 50)) (.cells #[.string ⟨#[]⟩, .int .i64 0, .int .i64 0, .string ⟨#[]⟩, .bool false] 50)
  rw [World.size_alloc] at Z3
  have kR := aside (blk_on Z2 (bnew _ (.cells #[.string ⟨#[]⟩, .int .i64 0, .int .i64 0, .string ⟨#[]⟩, .bool false] 50)))
  have kE := aside Z3
  have kk := aside (((Keeps.refl (fun x => x = br) w).alloc (.cells #[.string ⟨#[]⟩, .int .i64 0, .int .i64 0, .string ⟨#[]⟩, .bool false] 50)).alloc (.cells #[.string ⟨#[]⟩, .int .i64 0, .int .i64 0, .string ⟨#[]⟩, .bool false] 50))
  have RR := aside (H.out.keep (((Keeps.refl (fun _ => False) w).alloc (.cells #[.string ⟨#[]⟩, .int .i64 0, .int .i64 0, .string ⟨#[]⟩, .bool false] 50)).alloc (.cells #[.string ⟨#[]⟩, .int .i64 0, .int .i64 0, .string ⟨#[]⟩, .bool false] 50)) (fun h => h))
  have HB := aside hb
  clear Z2 Z3 H hb
  go_enter Try.func95, Try.ntmps95
  go_wp2_with fail
  refine (C1.out _ RR.out).mono ?_
  rintro r w1 ⟨rfl, R1, k1⟩
  have kE' := (k1.block (w.heap.size + 1) (Array.getElem?_eq_some_iff.1 kE.out).1 (fun h => by have := HB.out; omega)).trans kE.out
  have kR' := (k1.block w.heap.size (Array.getElem?_eq_some_iff.1 kR.out).1 (fun h => by have := HB.out; omega)).trans kR.out
  have kk' := kk.out.trans k1
  clear kE kR kk RR k1
  obtain ⟨⟨s0, s1, s2, s3, s4⟩, f0, f1, f2, f3, f4⟩ := quintF kE'
  obtain ⟨R1', kE2, kR2, kk2⟩ := one_set (cs := _) R1 kE' kR' kk' (Nat.le_succ _) HB.out (by omega) 0 (.string K)
  have kE3 : (w1.setCell ⟨w.heap.size + 1, 0, none⟩ (.string K)).heap[w.heap.size + 1]? = some (.cells #[.string K, .int .i64 0, .int .i64 0, .string ⟨#[]⟩, .bool false] 50 (0, 0)) := kE2
  have kE := aside kE3
  have kR := aside kR2
  have kk := aside kk2
  have RR := aside R1'
  clear kE' kR' kk' kE2 kE3 kR2 kk2 R1 R1'
  go_wp2_with fail
  refine (C2.out _ RR.out).mono ?_
  rintro r w2 ⟨rfl, R2, k2⟩
  have kE' := (k2.block (w.heap.size + 1) (Array.getElem?_eq_some_iff.1 kE.out).1 (fun h => by have := HB.out; omega)).trans kE.out
  have kR' := (k2.block w.heap.size (Array.getElem?_eq_some_iff.1 kR.out).1 (fun h => by have := HB.out; omega)).trans kR.out
  have kk' := kk.out.trans k2
  clear s0 s1 s2 s3 s4 f0 f1 f2 f3 f4
  clear kE kR kk RR k2
  obtain ⟨⟨s0, s1, s2, s3, s4⟩, f0, f1, f2, f3, f4⟩ := quintF kE'
  obtain ⟨R2', kE2, kR2, kk2⟩ := one_set (cs := _) R2 kE' kR' kk' (Nat.le_succ _) HB.out (by omega) 1 (.int .i64 c)
  have kE3 : (w2.setCell ⟨w.heap.size + 1, 1, none⟩ (.int .i64 c)).heap[w.heap.size + 1]? = some (.cells #[.string K, .int .i64 c, .int .i64 0, .string ⟨#[]⟩, .bool false] 50 (0, 0)) := kE2
  have kE := aside kE3
  have kR := aside kR2
  have kk := aside kk2
  have RR := aside R2'
  clear kE' kR' kk' kE2 kE3 kR2 kk2 R2 R2'
  go_wp2_with fail
  refine (C3.out _ RR.out).mono ?_
  rintro r w3 ⟨rfl, R3, k3⟩
  have kE' := (k3.block (w.heap.size + 1) (Array.getElem?_eq_some_iff.1 kE.out).1 (fun h => by have := HB.out; omega)).trans kE.out
  have kR' := (k3.block w.heap.size (Array.getElem?_eq_some_iff.1 kR.out).1 (fun h => by have := HB.out; omega)).trans kR.out
  have kk' := kk.out.trans k3
  clear s0 s1 s2 s3 s4 f0 f1 f2 f3 f4
  clear kE kR kk RR k3
  obtain ⟨⟨s0, s1, s2, s3, s4⟩, f0, f1, f2, f3, f4⟩ := quintF kE'
  obtain ⟨R3', kE2, kR2, kk2⟩ := one_set (cs := _) R3 kE' kR' kk' (Nat.le_succ _) HB.out (by omega) 2 (.int .i64 n)
  have kE3 : (w3.setCell ⟨w.heap.size + 1, 2, none⟩ (.int .i64 n)).heap[w.heap.size + 1]? = some (.cells #[.string K, .int .i64 c, .int .i64 n, .string ⟨#[]⟩, .bool false] 50 (0, 0)) := kE2
  have kE := aside kE3
  have kR := aside kR2
  have kk := aside kk2
  have RR := aside R3'
  clear kE' kR' kk' kE2 kE3 kR2 kk2 R3 R3'
  go_wp2_with fail
  refine (C4.out _ RR.out).mono ?_
  rintro r w4 ⟨rfl, R4, k4⟩
  have kE' := (k4.block (w.heap.size + 1) (Array.getElem?_eq_some_iff.1 kE.out).1 (fun h => by have := HB.out; omega)).trans kE.out
  have kR' := (k4.block w.heap.size (Array.getElem?_eq_some_iff.1 kR.out).1 (fun h => by have := HB.out; omega)).trans kR.out
  have kk' := kk.out.trans k4
  clear s0 s1 s2 s3 s4 f0 f1 f2 f3 f4
  clear kE kR kk RR k4
  obtain ⟨⟨s0, s1, s2, s3, s4⟩, f0, f1, f2, f3, f4⟩ := quintF kE'
  obtain ⟨R4', kE2, kR2, kk2⟩ := one_set (cs := _) R4 kE' kR' kk' (Nat.le_succ _) HB.out (by omega) 4 (.bool true)
  have kE3 : (w4.setCell ⟨w.heap.size + 1, 4, none⟩ (.bool true)).heap[w.heap.size + 1]? = some (.cells #[.string K, .int .i64 c, .int .i64 n, .string ⟨#[]⟩, .bool true] 50 (0, 0)) := kE2
  have kE := aside kE3
  have kR := aside kR2
  have kk := aside kk2
  have RR := aside R4'
  clear kE' kR' kk' kE2 kE3 kR2 kk2 R4 R4'
  obtain ⟨⟨x0, x1, x2, x3, x4⟩, y0, y1, y2, y3, y4⟩ := quintF kE.out
  go_wp2_with fail
  refine (C7.out _ RR.out).mono ?_
  rintro r w9 ⟨rfl, hw9⟩
  subst hw9
  obtain ⟨⟨t0, t1, t2, t3, t4⟩, g0, g1, g2, g3, g4⟩ := quintF kR.out
  rw [HE.out]
  go_wp2
  refine bodyPost_ret (v := .agg #[.string K, .int .i64 c, .int .i64 n, .string ⟨#[]⟩, .bool true]) (by simp [results, Try.results95, go_sem, t0, t1, t2, t3, t4]) rfl ⟨rfl, ?_⟩
  exact one_done (RR.out) kk.out HB.out
set_option maxRecDepth 100000 in
set_option maxHeartbeats 3200000 in
theorem get_101 (br : Nat) (s : ByteArray) (l : List UInt8) (p : Nat) (e : Int) (K : ByteArray) (tk : List UInt8) (c n : Int) (d : Bool) (V : ByteArray) (tv : List UInt8) (p1 p2 p3 p4 p5 : Nat) (e1 e2 e3 e4 e5 e6 : Int) (w : World) (h : OneR br s l p e w) (hK : (⟨tk.toArray⟩ : ByteArray) = K) (h1 : textSt l p e 16 = (tk, p1, e1)) (h2 : numSt l p1 e1 1099511627776 = (c, p2, e2)) (h3 : numSt l p2 e2 7 = (n, p3, e3)) (h4 : flagSt l p3 e3 = (true, p4, e4)) (hc : (c == 0) = false) (he : (e4 != 0) = true) :
    Calls Try.prog 95 #[.pointer (some ⟨br, 0, none⟩)] w fun r w' => r = .returned (.agg #[.string ⟨#[]⟩, .int .i64 0, .int .i64 0, .string ⟨#[]⟩, .bool false]) ∧ OneR br s l p4 e4 w' ∧ Keeps (fun x => x = br) w w' := by
  have C1 := aside (fun w (h : OneR br s l p e w) => one_text_at (K := K) hK h1 h)
  have C2 := aside (fun w (h : OneR br s l p1 e1 w) => one_num_at h2 h)
  have C3 := aside (fun w (h : OneR br s l p2 e2 w) => one_num_at h3 h)
  have C4 := aside (fun w (h : OneR br s l p3 e3 w) => one_flag_at h4 h)
  have C7 := aside (fun w (h : OneR br s l p4 e4 w) => one_err_at h)
  have hb := h.lt
  have H := aside h
  clear h hK h1 h2 h3 h4
  have Z2 := heap_alloc_new w (.cells #[.string ⟨#[]⟩, .int .i64 0, .int .i64 0, .string ⟨#[]⟩, .bool false] 50)
  have Z3 := heap_alloc_new (w.alloc (.cells #[.string ⟨#[]⟩, .int .i64 0, .int .i64 0, .string ⟨#[]⟩, .bool false] 50)) (.cells #[.string ⟨#[]⟩, .int .i64 0, .int .i64 0, .string ⟨#[]⟩, .bool false] 50)
  rw [World.size_alloc] at Z3
  have kR := aside (blk_on Z2 (bnew _ (.cells #[.string ⟨#[]⟩, .int .i64 0, .int .i64 0, .string ⟨#[]⟩, .bool false] 50)))
  have kE := aside Z3
  have kk := aside (((Keeps.refl (fun x => x = br) w).alloc (.cells #[.string ⟨#[]⟩, .int .i64 0, .int .i64 0, .string ⟨#[]⟩, .bool false] 50)).alloc (.cells #[.string ⟨#[]⟩, .int .i64 0, .int .i64 0, .string ⟨#[]⟩, .bool false] 50))
  have RR := aside (H.out.keep (((Keeps.refl (fun _ => False) w).alloc (.cells #[.string ⟨#[]⟩, .int .i64 0, .int .i64 0, .string ⟨#[]⟩, .bool false] 50)).alloc (.cells #[.string ⟨#[]⟩, .int .i64 0, .int .i64 0, .string ⟨#[]⟩, .bool false] 50)) (fun h => h))
  have HB := aside hb
  clear Z2 Z3 H hb
  go_enter Try.func95, Try.ntmps95
  go_wp2_with fail
  refine (C1.out _ RR.out).mono ?_
  rintro r w1 ⟨rfl, R1, k1⟩
  have kE' := (k1.block (w.heap.size + 1) (Array.getElem?_eq_some_iff.1 kE.out).1 (fun h => by have := HB.out; omega)).trans kE.out
  have kR' := (k1.block w.heap.size (Array.getElem?_eq_some_iff.1 kR.out).1 (fun h => by have := HB.out; omega)).trans kR.out
  have kk' := kk.out.trans k1
  clear kE kR kk RR k1
  obtain ⟨⟨s0, s1, s2, s3, s4⟩, f0, f1, f2, f3, f4⟩ := quintF kE'
  obtain ⟨R1', kE2, kR2, kk2⟩ := one_set (cs := _) R1 kE' kR' kk' (Nat.le_succ _) HB.out (by omega) 0 (.string K)
  have kE3 : (w1.setCell ⟨w.heap.size + 1, 0, none⟩ (.string K)).heap[w.heap.size + 1]? = some (.cells #[.string K, .int .i64 0, .int .i64 0, .string ⟨#[]⟩, .bool false] 50 (0, 0)) := kE2
  have kE := aside kE3
  have kR := aside kR2
  have kk := aside kk2
  have RR := aside R1'
  clear kE' kR' kk' kE2 kE3 kR2 kk2 R1 R1'
  go_wp2_with fail
  refine (C2.out _ RR.out).mono ?_
  rintro r w2 ⟨rfl, R2, k2⟩
  have kE' := (k2.block (w.heap.size + 1) (Array.getElem?_eq_some_iff.1 kE.out).1 (fun h => by have := HB.out; omega)).trans kE.out
  have kR' := (k2.block w.heap.size (Array.getElem?_eq_some_iff.1 kR.out).1 (fun h => by have := HB.out; omega)).trans kR.out
  have kk' := kk.out.trans k2
  clear s0 s1 s2 s3 s4 f0 f1 f2 f3 f4
  clear kE kR kk RR k2
  obtain ⟨⟨s0, s1, s2, s3, s4⟩, f0, f1, f2, f3, f4⟩ := quintF kE'
  obtain ⟨R2', kE2, kR2, kk2⟩ := one_set (cs := _) R2 kE' kR' kk' (Nat.le_succ _) HB.out (by omega) 1 (.int .i64 c)
  have kE3 : (w2.setCell ⟨w.heap.size + 1, 1, none⟩ (.int .i64 c)).heap[w.heap.size + 1]? = some (.cells #[.string K, .int .i64 c, .int .i64 0, .string ⟨#[]⟩, .bool false] 50 (0, 0)) := kE2
  have kE := aside kE3
  have kR := aside kR2
  have kk := aside kk2
  have RR := aside R2'
  clear kE' kR' kk' kE2 kE3 kR2 kk2 R2 R2'
  go_wp2_with fail
  refine (C3.out _ RR.out).mono ?_
  rintro r w3 ⟨rfl, R3, k3⟩
  have kE' := (k3.block (w.heap.size + 1) (Array.getElem?_eq_some_iff.1 kE.out).1 (fun h => by have := HB.out; omega)).trans kE.out
  have kR' := (k3.block w.heap.size (Array.getElem?_eq_some_iff.1 kR.out).1 (fun h => by have := HB.out; omega)).trans kR.out
  have kk' := kk.out.trans k3
  clear s0 s1 s2 s3 s4 f0 f1 f2 f3 f4
  clear kE kR kk RR k3
  obtain ⟨⟨s0, s1, s2, s3, s4⟩, f0, f1, f2, f3, f4⟩ := quintF kE'
  obtain ⟨R3', kE2, kR2, kk2⟩ := one_set (cs := _) R3 kE' kR' kk' (Nat.le_succ _) HB.out (by omega) 2 (.int .i64 n)
  have kE3 : (w3.setCell ⟨w.heap.size + 1, 2, none⟩ (.int .i64 n)).heap[w.heap.size + 1]? = some (.cells #[.string K, .int .i64 c, .int .i64 n, .string ⟨#[]⟩, .bool false] 50 (0, 0)) := kE2
  have kE := aside kE3
  have kR := aside kR2
  have kk := aside kk2
  have RR := aside R3'
  clear kE' kR' kk' kE2 kE3 kR2 kk2 R3 R3'
  go_wp2_with fail
  refine (C4.out _ RR.out).mono ?_
  rintro r w4 ⟨rfl, R4, k4⟩
  have kE' := (k4.block (w.heap.size + 1) (Array.getElem?_eq_some_iff.1 kE.out).1 (fun h => by have := HB.out; omega)).trans kE.out
  have kR' := (k4.block w.heap.size (Array.getElem?_eq_some_iff.1 kR.out).1 (fun h => by have := HB.out; omega)).trans kR.out
  have kk' := kk.out.trans k4
  clear s0 s1 s2 s3 s4 f0 f1 f2 f3 f4
  clear kE kR kk RR k4
  obtain ⟨⟨s0, s1, s2, s3, s4⟩, f0, f1, f2, f3, f4⟩ := quintF kE'
  obtain ⟨R4', kE2, kR2, kk2⟩ := one_set (cs := _) R4 kE' kR' kk' (Nat.le_succ _) HB.out (by omega) 4 (.bool true)
  have kE3 : (w4.setCell ⟨w.heap.size + 1, 4, none⟩ (.bool true)).heap[w.heap.size + 1]? = some (.cells #[.string K, .int .i64 c, .int .i64 n, .string ⟨#[]⟩, .bool true] 50 (0, 0)) := kE2
  have kE := aside kE3
  have kR := aside kR2
  have kk := aside kk2
  have RR := aside R4'
  clear kE' kR' kk' kE2 kE3 kR2 kk2 R4 R4'
  obtain ⟨⟨x0, x1, x2, x3, x4⟩, y0, y1, y2, y3, y4⟩ := quintF kE.out
  go_wp2_with fail
  refine (C7.out _ RR.out).mono ?_
  rintro r w9 ⟨rfl, hw9⟩
  subst hw9
  obtain ⟨⟨t0, t1, t2, t3, t4⟩, g0, g1, g2, g3, g4⟩ := quintF kR.out
  go_wp2
  refine bodyPost_ret (v := .agg #[.string ⟨#[]⟩, .int .i64 0, .int .i64 0, .string ⟨#[]⟩, .bool false]) (by simp [results, Try.results95, go_sem, t0, t1, t2, t3, t4]) rfl ⟨rfl, ?_⟩
  exact one_done RR.out kk.out HB.out
set_option maxRecDepth 100000 in
set_option maxHeartbeats 3200000 in
theorem get_111 (br : Nat) (s : ByteArray) (l : List UInt8) (p : Nat) (e : Int) (K : ByteArray) (tk : List UInt8) (c n : Int) (d : Bool) (V : ByteArray) (tv : List UInt8) (p1 p2 p3 p4 p5 : Nat) (e1 e2 e3 e4 e5 e6 : Int) (w : World) (h : OneR br s l p e w) (hK : (⟨tk.toArray⟩ : ByteArray) = K) (h1 : textSt l p e 16 = (tk, p1, e1)) (h2 : numSt l p1 e1 1099511627776 = (c, p2, e2)) (h3 : numSt l p2 e2 7 = (n, p3, e3)) (h4 : flagSt l p3 e3 = (true, p4, e4)) (hc : c = 0) (h6 : failOf e4 30 = e6) (he : (e6 != 0) = true) :
    Calls Try.prog 95 #[.pointer (some ⟨br, 0, none⟩)] w fun r w' => r = .returned (.agg #[.string ⟨#[]⟩, .int .i64 0, .int .i64 0, .string ⟨#[]⟩, .bool false]) ∧ OneR br s l p4 e6 w' ∧ Keeps (fun x => x = br) w w' := by
  have C1 := aside (fun w (h : OneR br s l p e w) => one_text_at (K := K) hK h1 h)
  have C2 := aside (fun w (h : OneR br s l p1 e1 w) => one_num_at h2 h)
  have C3 := aside (fun w (h : OneR br s l p2 e2 w) => one_num_at h3 h)
  have C4 := aside (fun w (h : OneR br s l p3 e3 w) => one_flag_at h4 h)
  have C6 := aside (fun w (h : OneR br s l p4 e4 w) => one_fail_at h6 h)
  have C7 := aside (fun w (h : OneR br s l p4 e6 w) => one_err_at h)
  subst hc
  have hb := h.lt
  have H := aside h
  clear h hK h1 h2 h3 h4 h6
  have Z2 := heap_alloc_new w (.cells #[.string ⟨#[]⟩, .int .i64 0, .int .i64 0, .string ⟨#[]⟩, .bool false] 50)
  have Z3 := heap_alloc_new (w.alloc (.cells #[.string ⟨#[]⟩, .int .i64 0, .int .i64 0, .string ⟨#[]⟩, .bool false] 50)) (.cells #[.string ⟨#[]⟩, .int .i64 0, .int .i64 0, .string ⟨#[]⟩, .bool false] 50)
  rw [World.size_alloc] at Z3
  have kR := aside (blk_on Z2 (bnew _ (.cells #[.string ⟨#[]⟩, .int .i64 0, .int .i64 0, .string ⟨#[]⟩, .bool false] 50)))
  have kE := aside Z3
  have kk := aside (((Keeps.refl (fun x => x = br) w).alloc (.cells #[.string ⟨#[]⟩, .int .i64 0, .int .i64 0, .string ⟨#[]⟩, .bool false] 50)).alloc (.cells #[.string ⟨#[]⟩, .int .i64 0, .int .i64 0, .string ⟨#[]⟩, .bool false] 50))
  have RR := aside (H.out.keep (((Keeps.refl (fun _ => False) w).alloc (.cells #[.string ⟨#[]⟩, .int .i64 0, .int .i64 0, .string ⟨#[]⟩, .bool false] 50)).alloc (.cells #[.string ⟨#[]⟩, .int .i64 0, .int .i64 0, .string ⟨#[]⟩, .bool false] 50)) (fun h => h))
  have HB := aside hb
  clear Z2 Z3 H hb
  go_enter Try.func95, Try.ntmps95
  go_wp2_with fail
  refine (C1.out _ RR.out).mono ?_
  rintro r w1 ⟨rfl, R1, k1⟩
  have kE' := (k1.block (w.heap.size + 1) (Array.getElem?_eq_some_iff.1 kE.out).1 (fun h => by have := HB.out; omega)).trans kE.out
  have kR' := (k1.block w.heap.size (Array.getElem?_eq_some_iff.1 kR.out).1 (fun h => by have := HB.out; omega)).trans kR.out
  have kk' := kk.out.trans k1
  clear kE kR kk RR k1
  obtain ⟨⟨s0, s1, s2, s3, s4⟩, f0, f1, f2, f3, f4⟩ := quintF kE'
  obtain ⟨R1', kE2, kR2, kk2⟩ := one_set (cs := _) R1 kE' kR' kk' (Nat.le_succ _) HB.out (by omega) 0 (.string K)
  have kE3 : (w1.setCell ⟨w.heap.size + 1, 0, none⟩ (.string K)).heap[w.heap.size + 1]? = some (.cells #[.string K, .int .i64 0, .int .i64 0, .string ⟨#[]⟩, .bool false] 50 (0, 0)) := kE2
  have kE := aside kE3
  have kR := aside kR2
  have kk := aside kk2
  have RR := aside R1'
  clear kE' kR' kk' kE2 kE3 kR2 kk2 R1 R1'
  go_wp2_with fail
  refine (C2.out _ RR.out).mono ?_
  rintro r w2 ⟨rfl, R2, k2⟩
  have kE' := (k2.block (w.heap.size + 1) (Array.getElem?_eq_some_iff.1 kE.out).1 (fun h => by have := HB.out; omega)).trans kE.out
  have kR' := (k2.block w.heap.size (Array.getElem?_eq_some_iff.1 kR.out).1 (fun h => by have := HB.out; omega)).trans kR.out
  have kk' := kk.out.trans k2
  clear s0 s1 s2 s3 s4 f0 f1 f2 f3 f4
  clear kE kR kk RR k2
  obtain ⟨⟨s0, s1, s2, s3, s4⟩, f0, f1, f2, f3, f4⟩ := quintF kE'
  obtain ⟨R2', kE2, kR2, kk2⟩ := one_set (cs := _) R2 kE' kR' kk' (Nat.le_succ _) HB.out (by omega) 1 (.int .i64 0)
  have kE3 : (w2.setCell ⟨w.heap.size + 1, 1, none⟩ (.int .i64 0)).heap[w.heap.size + 1]? = some (.cells #[.string K, .int .i64 0, .int .i64 0, .string ⟨#[]⟩, .bool false] 50 (0, 0)) := kE2
  have kE := aside kE3
  have kR := aside kR2
  have kk := aside kk2
  have RR := aside R2'
  clear kE' kR' kk' kE2 kE3 kR2 kk2 R2 R2'
  go_wp2_with fail
  refine (C3.out _ RR.out).mono ?_
  rintro r w3 ⟨rfl, R3, k3⟩
  have kE' := (k3.block (w.heap.size + 1) (Array.getElem?_eq_some_iff.1 kE.out).1 (fun h => by have := HB.out; omega)).trans kE.out
  have kR' := (k3.block w.heap.size (Array.getElem?_eq_some_iff.1 kR.out).1 (fun h => by have := HB.out; omega)).trans kR.out
  have kk' := kk.out.trans k3
  clear s0 s1 s2 s3 s4 f0 f1 f2 f3 f4
  clear kE kR kk RR k3
  obtain ⟨⟨s0, s1, s2, s3, s4⟩, f0, f1, f2, f3, f4⟩ := quintF kE'
  obtain ⟨R3', kE2, kR2, kk2⟩ := one_set (cs := _) R3 kE' kR' kk' (Nat.le_succ _) HB.out (by omega) 2 (.int .i64 n)
  have kE3 : (w3.setCell ⟨w.heap.size + 1, 2, none⟩ (.int .i64 n)).heap[w.heap.size + 1]? = some (.cells #[.string K, .int .i64 0, .int .i64 n, .string ⟨#[]⟩, .bool false] 50 (0, 0)) := kE2
  have kE := aside kE3
  have kR := aside kR2
  have kk := aside kk2
  have RR := aside R3'
  clear kE' kR' kk' kE2 kE3 kR2 kk2 R3 R3'
  go_wp2_with fail
  refine (C4.out _ RR.out).mono ?_
  rintro r w4 ⟨rfl, R4, k4⟩
  have kE' := (k4.block (w.heap.size + 1) (Array.getElem?_eq_some_iff.1 kE.out).1 (fun h => by have := HB.out; omega)).trans kE.out
  have kR' := (k4.block w.heap.size (Array.getElem?_eq_some_iff.1 kR.out).1 (fun h => by have := HB.out; omega)).trans kR.out
  have kk' := kk.out.trans k4
  clear s0 s1 s2 s3 s4 f0 f1 f2 f3 f4
  clear kE kR kk RR k4
  obtain ⟨⟨s0, s1, s2, s3, s4⟩, f0, f1, f2, f3, f4⟩ := quintF kE'
  obtain ⟨R4', kE2, kR2, kk2⟩ := one_set (cs := _) R4 kE' kR' kk' (Nat.le_succ _) HB.out (by omega) 4 (.bool true)
  have kE3 : (w4.setCell ⟨w.heap.size + 1, 4, none⟩ (.bool true)).heap[w.heap.size + 1]? = some (.cells #[.string K, .int .i64 0, .int .i64 n, .string ⟨#[]⟩, .bool true] 50 (0, 0)) := kE2
  have kE := aside kE3
  have kR := aside kR2
  have kk := aside kk2
  have RR := aside R4'
  clear kE' kR' kk' kE2 kE3 kR2 kk2 R4 R4'
  obtain ⟨⟨x0, x1, x2, x3, x4⟩, y0, y1, y2, y3, y4⟩ := quintF kE.out
  go_wp2_with fail
  refine (C6.out _ RR.out).mono ?_
  rintro r w8 ⟨rfl, R8, k8⟩
  have kE' := (k8.block (w.heap.size + 1) (Array.getElem?_eq_some_iff.1 kE.out).1 (fun h => by have := HB.out; omega)).trans kE.out
  have kR' := (k8.block w.heap.size (Array.getElem?_eq_some_iff.1 kR.out).1 (fun h => by have := HB.out; omega)).trans kR.out
  have kk' := kk.out.trans k8
  clear s0 s1 s2 s3 s4 f0 f1 f2 f3 f4 x0 x1 x2 x3 x4 y0 y1 y2 y3 y4
  clear kE kR kk RR k8
  have kE := aside kE'
  have kR := aside kR'
  have kk := aside kk'
  have RR := aside R8
  clear kE' kR' kk' R8
  obtain ⟨⟨s0, s1, s2, s3, s4⟩, f0, f1, f2, f3, f4⟩ := quintF kE.out
  go_wp2_with fail
  refine (C7.out _ RR.out).mono ?_
  rintro r w9 ⟨rfl, hw9⟩
  subst hw9
  obtain ⟨⟨t0, t1, t2, t3, t4⟩, g0, g1, g2, g3, g4⟩ := quintF kR.out
  go_wp2
  refine bodyPost_ret (v := .agg #[.string ⟨#[]⟩, .int .i64 0, .int .i64 0, .string ⟨#[]⟩, .bool false]) (by simp [results, Try.results95, go_sem, t0, t1, t2, t3, t4]) rfl ⟨rfl, ?_⟩
  exact one_done RR.out kk.out HB.out
end Go.Proofs.Ytbnppmkdhnpdfaa
namespace Go.Proofs.Ytbnppmkdhnpdfaa
open Go.RowKit
set_option linter.unusedVariables false
end Go.Proofs.Ytbnppmkdhnpdfaa
namespace Go.Proofs.Ytbnppmkdhnpdfaa
open Go.RowKit
set_option linter.unusedVariables false
/-- The end of Get: the value's text, the Counter's error, the answer. -/
def getFin (l : List UInt8) (tk : List UInt8) (c n : Int) (d : Bool) (p4 : Nat) (e4 : Int) : En × Nat × Int :=
  match d with
  | true => if c = 0 then (⟨⟨#[]⟩, 0, 0, ⟨#[]⟩, false⟩, p4, failOf e4 30) else if e4 = 0 then (⟨⟨tk.toArray⟩, c, n, ⟨#[]⟩, true⟩, p4, 0) else (⟨⟨#[]⟩, 0, 0, ⟨#[]⟩, false⟩, p4, e4)
  | false =>
    match textSt l p4 e4 32 with
    | (tv, p5, e5) => if c = 0 then (⟨⟨#[]⟩, 0, 0, ⟨#[]⟩, false⟩, p5, failOf e5 30) else if e5 = 0 then (⟨⟨tk.toArray⟩, c, n, ⟨tv.toArray⟩, false⟩, p5, 0) else (⟨⟨#[]⟩, 0, 0, ⟨#[]⟩, false⟩, p5, e5)
/-- Get. -/
def getSt (l : List UInt8) (p : Nat) (e : Int) : En × Nat × Int :=
  match textSt l p e 16 with
  | (tk, p1, e1) =>
    match numSt l p1 e1 1099511627776 with
    | (c, p2, e2) =>
      match numSt l p2 e2 7 with
      | (n, p3, e3) =>
        match flagSt l p3 e3 with
        | (d, p4, e4) => getFin l tk c n d p4 e4
theorem failOf_ne (e : Int) : (failOf e 30 != 0) = true := by
  unfold failOf; split
  · rfl
  · rename_i h; simp [h]
theorem getSt_eq {l : List UInt8} {p p1 p2 p3 p4 : Nat} {e e1 e2 e3 e4 : Int} {tk : List UInt8} {c n : Int} {d : Bool} (h1 : textSt l p e 16 = (tk, p1, e1)) (h2 : numSt l p1 e1 1099511627776 = (c, p2, e2)) (h3 : numSt l p2 e2 7 = (n, p3, e3)) (h4 : flagSt l p3 e3 = (d, p4, e4)) :
    getSt l p e = getFin l tk c n d p4 e4 := by
  unfold getSt; rw [h1]; simp only; rw [h2]; simp only; rw [h3]; simp only; rw [h4]
set_option maxHeartbeats 1000000 in
theorem get_at {br : Nat} {s : ByteArray} {l : List UInt8} {p p' : Nat} {e e' : Int} {R : En} {w : World} (h : OneR br s l p e w) (hg : getSt l p e = (R, p', e')) :
    Calls Try.prog 95 #[.pointer (some ⟨br, 0, none⟩)] w fun r w' => r = .returned (.agg #[.string R.k, .int .i64 R.c, .int .i64 R.n, .string R.v, .bool R.d]) ∧ OneR br s l p' e' w' ∧ Keeps (fun x => x = br) w w' := by
  rcases h1 : textSt l p e 16 with ⟨tk, p1, e1⟩
  rcases h2 : numSt l p1 e1 1099511627776 with ⟨c, p2, e2⟩
  rcases h3 : numSt l p2 e2 7 with ⟨n, p3, e3⟩
  rcases h4 : flagSt l p3 e3 with ⟨d, p4, e4⟩
  rw [getSt_eq h1 h2 h3 h4] at hg
  cases d
  · rcases h5 : textSt l p4 e4 32 with ⟨tv, p5, e5⟩
    simp only [getFin] at hg
    rw [h5] at hg
    simp only at hg
    by_cases hc : c = 0
    · rw [if_pos hc] at hg
      cases hg
      exact get_011 br s l p e _ tk c n false ⟨tv.toArray⟩ tv p1 p2 p3 p4 p' e1 e2 e3 e4 e5 _ w h rfl h1 h2 h3 h4 rfl h5 hc rfl (failOf_ne e5)
    · rw [if_neg hc] at hg
      by_cases he : e5 = 0
      · rw [if_pos he] at hg
        cases hg
        have := get_000 br s l p e _ tk c n false ⟨tv.toArray⟩ tv p1 p2 p3 p4 p' e1 e2 e3 e4 e5 0 w h rfl h1 h2 h3 h4 rfl h5 (by simp [hc]) he
        rw [he] at this
        exact this
      · rw [if_neg he] at hg
        cases hg
        exact get_001 br s l p e _ tk c n false ⟨tv.toArray⟩ tv p1 p2 p3 p4 p' e1 e2 e3 e4 e' 0 w h rfl h1 h2 h3 h4 rfl h5 (by simp [hc]) (by simp [he])
  · simp only [getFin] at hg
    by_cases hc : c = 0
    · rw [if_pos hc] at hg
      cases hg
      exact get_111 br s l p e _ tk c n true ⟨#[]⟩ [] p1 p2 p3 p' 0 e1 e2 e3 e4 0 _ w h rfl h1 h2 h3 h4 hc rfl (failOf_ne e4)
    · rw [if_neg hc] at hg
      by_cases he : e4 = 0
      · rw [if_pos he] at hg
        cases hg
        have := get_100 br s l p e _ tk c n true ⟨#[]⟩ [] p1 p2 p3 p' 0 e1 e2 e3 e4 0 0 w h rfl h1 h2 h3 h4 (by simp [hc]) he
        rw [he] at this
        exact this
      · rw [if_neg he] at hg
        cases hg
        exact get_101 br s l p e _ tk c n true ⟨#[]⟩ [] p1 p2 p3 p' 0 e1 e2 e3 e' 0 0 w h rfl h1 h2 h3 h4 (by simp [hc]) (by simp [he])
end Go.Proofs.Ytbnppmkdhnpdfaa

/-
  The document's own Parse, behind the three cuts.
-/
import Derived.Test.YtnjbglnkhgholabDoorTRef
namespace Go.Proofs.YtnjbglnkhgholabDoor
open Go.RowKit
set_option linter.unusedVariables false

theorem blk_other {W : World} {i j k : Nat} {o : Obj} (h : W.heap[i]? = some o) (hne : i ≠ j) (u : Value) : (W.setCell ⟨j, k, none⟩ u).heap[i]? = some o := by
  rw [Below.heap_setCell _ _ _ _ hne]; exact h

set_option maxRecDepth 100000 in
set_option maxHeartbeats 6400000 in
theorem pr_vmark (s K R V X A B : ByteArray)  (w : World) (C1 : Hid (∀ w, Calls Tryd.prog 16 #[.string s, .int .u8 32] w fun r w' => r = .returned (.tuple #[.string K, .string R, .bool true]) ∧ Below w.heap.size w w'))
    (C2 : Hid (∀ w, Calls Tryd.prog 16 #[.string R, .int .u8 32] w fun r w' => r = .returned (.tuple #[.string V, .string X, .bool true]) ∧ Below w.heap.size w w'))
    (C3 : Hid (∀ w, Calls Tryd.prog 16 #[.string V, .int .u8 46] w fun r w' => r = .returned (.tuple #[.string A, .string B, .bool true]) ∧ Below w.heap.size w w')) (hK1 : K.toList.isEmpty = false) (hK2 : (K.toList == []) = false) (x : UInt8) (ix : ∀ w, (Instr.index 9 (.string K) (.int .i64 0)).run Tryd.prog w = .ok (.int .u8 (x.toNat : Int)) w) (hx : ((x.toNat : Int) != 107) = false) (hX1 : X.toList.isEmpty = false) (hX2 : (X.toList == []) = false) (hX : (X.toList == [120]) = false) (y : UInt8) (ixX : ∀ w, (Instr.index 9 (.string X) (.int .i64 0)).run Tryd.prog w = .ok (.int .u8 (y.toNat : Int)) w) (hy : ((y.toNat : Int) != 61) = true) :
    Calls Tryd.prog 8 #[.string s] w fun r w' => r = .returned (.tuple #[.agg #[.string ⟨#[]⟩, .int .i64 0, .int .i64 0, .string ⟨#[]⟩, .bool false], .int .i64 23]) ∧ Below w.heap.size w w' := by
  have Z := aside (heap_alloc_new w (.cells #[.string ⟨#[]⟩, .int .i64 0, .int .i64 0, .string ⟨#[]⟩, .bool false] 25))
  go_enter Tryd.func8, Tryd.ntmps8
  go_wp2_with fail
  refine (C1.out _).mono ?_
  rintro r w1 ⟨rfl, b1⟩
  have Z1 := aside (blk_on Z.out b1)
  have b01 := bthen (bnew w _) b1
  clear b1
  go_wp2_with fail
  refine (C2.out _).mono ?_
  rintro r w2 ⟨rfl, b2⟩
  have Z2 := aside (blk_on Z1.out b2)
  have b02 := bthen b01 b2
  clear b2 b01 Z1
  go_wp2_with fail
  refine (C3.out _).mono ?_
  rintro r w3 ⟨rfl, b3⟩
  have Z3 := aside (blk_on Z2.out b3)
  have b03 := bthen b02 b3
  obtain ⟨⟨t0, t1, t2, t3, t4⟩, g0, g1, g2, g3, g4⟩ := quint Z3.out
  clear b3 b02 Z2
  obtain ⟨⟨s0, s1, s2, s3, s4⟩, -⟩ := quint (heap_alloc_new w3 (.cells #[.string ⟨#[]⟩, .int .i64 0, .int .i64 0, .string ⟨#[]⟩, .bool false] 25))
  obtain ⟨⟨u0, u1, u2, u3, u4⟩, l0, l1, l2, l3, l4⟩ := quint (blk_on Z3.out (bnew w3 (.cells #[.string ⟨#[]⟩, .int .i64 0, .int .i64 0, .string ⟨#[]⟩, .bool false] 25)))
  have bA := bthen b03 (bnew w3 (.cells #[.string ⟨#[]⟩, .int .i64 0, .int .i64 0, .string ⟨#[]⟩, .bool false] 25))
  have n2 : w.heap.size ≠ w3.heap.size := by have := (Array.getElem?_eq_some_iff.1 Z3.out).1; omega
  clear t0 t1 t2 t3 t4 g0 g1 g2 g3 g4
  go_wp2
  refine bodyPost_ret (v := .tuple #[.agg #[.string ⟨#[]⟩, .int .i64 0, .int .i64 0, .string ⟨#[]⟩, .bool false], .int .i64 23]) (by simp [results, Tryd.results8, go_sem, u0, u1, u2, u3, u4]) rfl ⟨rfl, ?_⟩
  exact set5r bA (Nat.le_refl _) _ _ _ _ _

set_option maxRecDepth 100000 in
set_option maxHeartbeats 6400000 in
theorem pr_hexkL (s K R V X A B : ByteArray) (kd : ByteArray) (e1 : Int) (w : World) (C1 : Hid (∀ w, Calls Tryd.prog 16 #[.string s, .int .u8 32] w fun r w' => r = .returned (.tuple #[.string K, .string R, .bool true]) ∧ Below w.heap.size w w'))
    (C2 : Hid (∀ w, Calls Tryd.prog 16 #[.string R, .int .u8 32] w fun r w' => r = .returned (.tuple #[.string V, .string X, .bool true]) ∧ Below w.heap.size w w'))
    (C3 : Hid (∀ w, Calls Tryd.prog 16 #[.string V, .int .u8 46] w fun r w' => r = .returned (.tuple #[.string A, .string B, .bool true]) ∧ Below w.heap.size w w')) (hK1 : K.toList.isEmpty = false) (hK2 : (K.toList == []) = false) (x : UInt8) (ix : ∀ w, (Instr.index 9 (.string K) (.int .i64 0)).run Tryd.prog w = .ok (.int .u8 (x.toNat : Int)) w) (hx : ((x.toNat : Int) != 107) = false) (hX1 : X.toList.isEmpty = false) (hX2 : (X.toList == []) = false) (hX : (X.toList == [120]) = false) (y : UInt8) (ixX : ∀ w, (Instr.index 9 (.string X) (.int .i64 0)).run Tryd.prog w = .ok (.int .u8 (y.toNat : Int)) w) (hy : ((y.toNat : Int) != 61) = false) (hXs : (1 : Int) ≤ X.size) (hKs : (1 : Int) ≤ K.size) (U1 : Hid (∀ w, Calls Tryd.prog 17 #[.string (K.extract 1 K.size)] w fun r w' => r = .returned (.tuple #[.string kd, .int .i64 e1]) ∧ Below w.heap.size w w')) (he1 : (e1 != 0) = true) :
    Calls Tryd.prog 8 #[.string s] w fun r w' => r = .returned (.tuple #[.agg #[.string ⟨#[]⟩, .int .i64 0, .int .i64 0, .string ⟨#[]⟩, .bool false], .int .i64 23]) ∧ Below w.heap.size w w' := by
  have Z := aside (heap_alloc_new w (.cells #[.string ⟨#[]⟩, .int .i64 0, .int .i64 0, .string ⟨#[]⟩, .bool false] 25))
  go_enter Tryd.func8, Tryd.ntmps8
  go_wp2_with fail
  refine (C1.out _).mono ?_
  rintro r w1 ⟨rfl, b1⟩
  have Z1 := aside (blk_on Z.out b1)
  have b01 := bthen (bnew w _) b1
  clear b1
  go_wp2_with fail
  refine (C2.out _).mono ?_
  rintro r w2 ⟨rfl, b2⟩
  have Z2 := aside (blk_on Z1.out b2)
  have b02 := bthen b01 b2
  clear b2 b01 Z1
  go_wp2_with fail
  refine (C3.out _).mono ?_
  rintro r w3 ⟨rfl, b3⟩
  have Z3 := aside (blk_on Z2.out b3)
  have b03 := bthen b02 b3
  obtain ⟨⟨t0, t1, t2, t3, t4⟩, g0, g1, g2, g3, g4⟩ := quint Z3.out
  clear b3 b02 Z2
  have kE := aside (heap_alloc_new w3 (.cells #[.string ⟨#[]⟩, .int .i64 0, .int .i64 0, .string ⟨#[]⟩, .bool false] 25))
  have kR := aside (blk_on Z3.out (bnew w3 (.cells #[.string ⟨#[]⟩, .int .i64 0, .int .i64 0, .string ⟨#[]⟩, .bool false] 25)))
  have n2 : w.heap.size ≠ w3.heap.size := by have := (Array.getElem?_eq_some_iff.1 Z3.out).1; omega
  have n3 : w.heap.size ≤ w3.heap.size := by have := (Array.getElem?_eq_some_iff.1 Z3.out).1; omega
  have bb := aside (bthen b03 (bnew w3 (.cells #[.string ⟨#[]⟩, .int .i64 0, .int .i64 0, .string ⟨#[]⟩, .bool false] 25)))
  obtain ⟨⟨s0, s1, s2, s3, s4⟩, f0, f1, f2, f3, f4⟩ := quint kE.out
  clear Z3 b03
  go_wp2_with fail
  refine (U1.out _).mono ?_
  rintro r w4 ⟨rfl, b'⟩
  have kR' := aside (blk_on kR.out b')
  have kE' := aside (blk_on kE.out b')
  have bb' := aside (bthen bb.out b')
  clear s0 s1 s2 s3 s4 f0 f1 f2 f3 f4 t0 t1 t2 t3 t4 g0 g1 g2 g3 g4 kR kE bb b'
  have kR := kR'
  have kE := kE'
  have bb := bb'
  clear kR' kE' bb'
  obtain ⟨⟨s0, s1, s2, s3, s4⟩, f0, f1, f2, f3, f4⟩ := quint kE.out
  obtain ⟨⟨t0, t1, t2, t3, t4⟩, g0, g1, g2, g3, g4⟩ := quint kR.out
  have bF := bb.out
  clear kR kE bb
  go_wp2
  refine bodyPost_ret (v := .tuple #[.agg #[.string ⟨#[]⟩, .int .i64 0, .int .i64 0, .string ⟨#[]⟩, .bool false], .int .i64 23]) (by simp [results, Tryd.results8, go_sem, t0, t1, t2, t3, t4]) rfl ⟨rfl, ?_⟩
  exact set5r bF (Nat.le_refl _) _ _ _ _ _

set_option maxRecDepth 100000 in
set_option maxHeartbeats 6400000 in
theorem pr_hexvL (s K R V X A B : ByteArray) (kd : ByteArray) (e1 : Int) (vd : ByteArray) (e2 : Int) (w : World) (C1 : Hid (∀ w, Calls Tryd.prog 16 #[.string s, .int .u8 32] w fun r w' => r = .returned (.tuple #[.string K, .string R, .bool true]) ∧ Below w.heap.size w w'))
    (C2 : Hid (∀ w, Calls Tryd.prog 16 #[.string R, .int .u8 32] w fun r w' => r = .returned (.tuple #[.string V, .string X, .bool true]) ∧ Below w.heap.size w w'))
    (C3 : Hid (∀ w, Calls Tryd.prog 16 #[.string V, .int .u8 46] w fun r w' => r = .returned (.tuple #[.string A, .string B, .bool true]) ∧ Below w.heap.size w w')) (hK1 : K.toList.isEmpty = false) (hK2 : (K.toList == []) = false) (x : UInt8) (ix : ∀ w, (Instr.index 9 (.string K) (.int .i64 0)).run Tryd.prog w = .ok (.int .u8 (x.toNat : Int)) w) (hx : ((x.toNat : Int) != 107) = false) (hX1 : X.toList.isEmpty = false) (hX2 : (X.toList == []) = false) (hX : (X.toList == [120]) = false) (y : UInt8) (ixX : ∀ w, (Instr.index 9 (.string X) (.int .i64 0)).run Tryd.prog w = .ok (.int .u8 (y.toNat : Int)) w) (hy : ((y.toNat : Int) != 61) = false) (hXs : (1 : Int) ≤ X.size) (hKs : (1 : Int) ≤ K.size) (U1 : Hid (∀ w, Calls Tryd.prog 17 #[.string (K.extract 1 K.size)] w fun r w' => r = .returned (.tuple #[.string kd, .int .i64 e1]) ∧ Below w.heap.size w w')) (he1 : e1 = 0) (U2 : Hid (∀ w, Calls Tryd.prog 17 #[.string (X.extract 1 X.size)] w fun r w' => r = .returned (.tuple #[.string vd, .int .i64 e2]) ∧ Below w.heap.size w w')) (he2 : (e2 != 0) = true) :
    Calls Tryd.prog 8 #[.string s] w fun r w' => r = .returned (.tuple #[.agg #[.string ⟨#[]⟩, .int .i64 0, .int .i64 0, .string ⟨#[]⟩, .bool false], .int .i64 23]) ∧ Below w.heap.size w w' := by
  have Z := aside (heap_alloc_new w (.cells #[.string ⟨#[]⟩, .int .i64 0, .int .i64 0, .string ⟨#[]⟩, .bool false] 25))
  subst he1
  go_enter Tryd.func8, Tryd.ntmps8
  go_wp2_with fail
  refine (C1.out _).mono ?_
  rintro r w1 ⟨rfl, b1⟩
  have Z1 := aside (blk_on Z.out b1)
  have b01 := bthen (bnew w _) b1
  clear b1
  go_wp2_with fail
  refine (C2.out _).mono ?_
  rintro r w2 ⟨rfl, b2⟩
  have Z2 := aside (blk_on Z1.out b2)
  have b02 := bthen b01 b2
  clear b2 b01 Z1
  go_wp2_with fail
  refine (C3.out _).mono ?_
  rintro r w3 ⟨rfl, b3⟩
  have Z3 := aside (blk_on Z2.out b3)
  have b03 := bthen b02 b3
  obtain ⟨⟨t0, t1, t2, t3, t4⟩, g0, g1, g2, g3, g4⟩ := quint Z3.out
  clear b3 b02 Z2
  have kE := aside (heap_alloc_new w3 (.cells #[.string ⟨#[]⟩, .int .i64 0, .int .i64 0, .string ⟨#[]⟩, .bool false] 25))
  have kR := aside (blk_on Z3.out (bnew w3 (.cells #[.string ⟨#[]⟩, .int .i64 0, .int .i64 0, .string ⟨#[]⟩, .bool false] 25)))
  have n2 : w.heap.size ≠ w3.heap.size := by have := (Array.getElem?_eq_some_iff.1 Z3.out).1; omega
  have n3 : w.heap.size ≤ w3.heap.size := by have := (Array.getElem?_eq_some_iff.1 Z3.out).1; omega
  have bb := aside (bthen b03 (bnew w3 (.cells #[.string ⟨#[]⟩, .int .i64 0, .int .i64 0, .string ⟨#[]⟩, .bool false] 25)))
  obtain ⟨⟨s0, s1, s2, s3, s4⟩, f0, f1, f2, f3, f4⟩ := quint kE.out
  clear Z3 b03
  go_wp2_with fail
  refine (U1.out _).mono ?_
  rintro r w4 ⟨rfl, b'⟩
  have kR' := aside (blk_on kR.out b')
  have kE' := aside (blk_on kE.out b')
  have bb' := aside (bthen bb.out b')
  clear s0 s1 s2 s3 s4 f0 f1 f2 f3 f4 t0 t1 t2 t3 t4 g0 g1 g2 g3 g4 kR kE bb b'
  have kR := kR'
  have kE := kE'
  have bb := bb'
  clear kR' kE' bb'
  obtain ⟨⟨s0, s1, s2, s3, s4⟩, f0, f1, f2, f3, f4⟩ := quint kE.out
  obtain ⟨⟨t0, t1, t2, t3, t4⟩, g0, g1, g2, g3, g4⟩ := quint kR.out
  have kR' := aside (blk_other (k := 0) kR.out n2 (.string kd))
  have kE' : Hid ((w4.setCell ⟨w3.heap.size, 0, none⟩ (.string kd)).heap[w3.heap.size]? = some (.cells #[.string kd, .int .i64 0, .int .i64 0, .string ⟨#[]⟩, .bool false] 25 (0, 0))) := heap_setCell_same w4 w3.heap.size 0 _ _ (.string kd) kE.out
  have bb' := aside (bb.out.setCell (p := ⟨w3.heap.size, 0, none⟩) n3 (.string kd))
  clear kR kE bb
  have kR := kR'
  have kE := kE'
  have bb := bb'
  clear kR' kE' bb'
  obtain ⟨⟨x0, x1, x2, x3, x4⟩, y0, y1, y2, y3, y4⟩ := quint kE.out
  obtain ⟨⟨v0, v1, v2, v3, v4⟩, -⟩ := quint kR.out
  go_wp2_with fail
  refine (U2.out _).mono ?_
  rintro r w5 ⟨rfl, b'⟩
  have kR' := aside (blk_on kR.out b')
  have kE' := aside (blk_on kE.out b')
  have bb' := aside (bthen bb.out b')
  clear x0 x1 x2 x3 x4 y0 y1 y2 y3 y4 v0 v1 v2 v3 v4 s0 s1 s2 s3 s4 f0 f1 f2 f3 f4 t0 t1 t2 t3 t4 g0 g1 g2 g3 g4 kR kE bb b'
  have kR := kR'
  have kE := kE'
  have bb := bb'
  clear kR' kE' bb'
  obtain ⟨⟨s0, s1, s2, s3, s4⟩, f0, f1, f2, f3, f4⟩ := quint kE.out
  obtain ⟨⟨t0, t1, t2, t3, t4⟩, g0, g1, g2, g3, g4⟩ := quint kR.out
  have bF := bb.out
  clear kR kE bb
  go_wp2
  refine bodyPost_ret (v := .tuple #[.agg #[.string ⟨#[]⟩, .int .i64 0, .int .i64 0, .string ⟨#[]⟩, .bool false], .int .i64 23]) (by simp [results, Tryd.results8, go_sem, t0, t1, t2, t3, t4]) rfl ⟨rfl, ?_⟩
  exact set5r bF (Nat.le_refl _) _ _ _ _ _

set_option maxRecDepth 100000 in
set_option maxHeartbeats 6400000 in
theorem pr_numL (s K R V X A B : ByteArray) (kd : ByteArray) (e1 : Int) (vd : ByteArray) (e2 : Int) (c n : Int) (fx fy : Bool) (w : World) (C1 : Hid (∀ w, Calls Tryd.prog 16 #[.string s, .int .u8 32] w fun r w' => r = .returned (.tuple #[.string K, .string R, .bool true]) ∧ Below w.heap.size w w'))
    (C2 : Hid (∀ w, Calls Tryd.prog 16 #[.string R, .int .u8 32] w fun r w' => r = .returned (.tuple #[.string V, .string X, .bool true]) ∧ Below w.heap.size w w'))
    (C3 : Hid (∀ w, Calls Tryd.prog 16 #[.string V, .int .u8 46] w fun r w' => r = .returned (.tuple #[.string A, .string B, .bool true]) ∧ Below w.heap.size w w')) (hK1 : K.toList.isEmpty = false) (hK2 : (K.toList == []) = false) (x : UInt8) (ix : ∀ w, (Instr.index 9 (.string K) (.int .i64 0)).run Tryd.prog w = .ok (.int .u8 (x.toNat : Int)) w) (hx : ((x.toNat : Int) != 107) = false) (hX1 : X.toList.isEmpty = false) (hX2 : (X.toList == []) = false) (hX : (X.toList == [120]) = false) (y : UInt8) (ixX : ∀ w, (Instr.index 9 (.string X) (.int .i64 0)).run Tryd.prog w = .ok (.int .u8 (y.toNat : Int)) w) (hy : ((y.toNat : Int) != 61) = false) (hXs : (1 : Int) ≤ X.size) (hKs : (1 : Int) ≤ K.size) (U1 : Hid (∀ w, Calls Tryd.prog 17 #[.string (K.extract 1 K.size)] w fun r w' => r = .returned (.tuple #[.string kd, .int .i64 e1]) ∧ Below w.heap.size w w')) (he1 : e1 = 0) (U2 : Hid (∀ w, Calls Tryd.prog 17 #[.string (X.extract 1 X.size)] w fun r w' => r = .returned (.tuple #[.string vd, .int .i64 e2]) ∧ Below w.heap.size w w')) (he2 : e2 = 0) (N1 : Hid (∀ w, Calls Tryd.prog 18 #[.string A] w fun r w' => r = .returned (.tuple #[.int .i64 c, .bool fx]) ∧ Below w.heap.size w w')) (N2 : Hid (∀ w, Calls Tryd.prog 18 #[.string B] w fun r w' => r = .returned (.tuple #[.int .i64 n, .bool fy]) ∧ Below w.heap.size w w')) (hf : (fx && fy) = false) :
    Calls Tryd.prog 8 #[.string s] w fun r w' => r = .returned (.tuple #[.agg #[.string ⟨#[]⟩, .int .i64 0, .int .i64 0, .string ⟨#[]⟩, .bool false], .int .i64 23]) ∧ Below w.heap.size w w' := by
  have Z := aside (heap_alloc_new w (.cells #[.string ⟨#[]⟩, .int .i64 0, .int .i64 0, .string ⟨#[]⟩, .bool false] 25))
  subst he1
  subst he2
  cases fx <;> cases fy
  all_goals first
    | (exact absurd hf (by decide))
    | skip
  all_goals
    go_enter Tryd.func8, Tryd.ntmps8
    go_wp2_with fail
    refine (C1.out _).mono ?_
    rintro r w1 ⟨rfl, b1⟩
    have Z1 := aside (blk_on Z.out b1)
    have b01 := bthen (bnew w _) b1
    clear b1
    go_wp2_with fail
    refine (C2.out _).mono ?_
    rintro r w2 ⟨rfl, b2⟩
    have Z2 := aside (blk_on Z1.out b2)
    have b02 := bthen b01 b2
    clear b2 b01 Z1
    go_wp2_with fail
    refine (C3.out _).mono ?_
    rintro r w3 ⟨rfl, b3⟩
    have Z3 := aside (blk_on Z2.out b3)
    have b03 := bthen b02 b3
    obtain ⟨⟨t0, t1, t2, t3, t4⟩, g0, g1, g2, g3, g4⟩ := quint Z3.out
    clear b3 b02 Z2
    have kE := aside (heap_alloc_new w3 (.cells #[.string ⟨#[]⟩, .int .i64 0, .int .i64 0, .string ⟨#[]⟩, .bool false] 25))
    have kR := aside (blk_on Z3.out (bnew w3 (.cells #[.string ⟨#[]⟩, .int .i64 0, .int .i64 0, .string ⟨#[]⟩, .bool false] 25)))
    have n2 : w.heap.size ≠ w3.heap.size := by have := (Array.getElem?_eq_some_iff.1 Z3.out).1; omega
    have n3 : w.heap.size ≤ w3.heap.size := by have := (Array.getElem?_eq_some_iff.1 Z3.out).1; omega
    have bb := aside (bthen b03 (bnew w3 (.cells #[.string ⟨#[]⟩, .int .i64 0, .int .i64 0, .string ⟨#[]⟩, .bool false] 25)))
    obtain ⟨⟨s0, s1, s2, s3, s4⟩, f0, f1, f2, f3, f4⟩ := quint kE.out
    clear Z3 b03
    go_wp2_with fail
    refine (U1.out _).mono ?_
    rintro r w4 ⟨rfl, b'⟩
    have kR' := aside (blk_on kR.out b')
    have kE' := aside (blk_on kE.out b')
    have bb' := aside (bthen bb.out b')
    clear s0 s1 s2 s3 s4 f0 f1 f2 f3 f4 t0 t1 t2 t3 t4 g0 g1 g2 g3 g4 kR kE bb b'
    have kR := kR'
    have kE := kE'
    have bb := bb'
    clear kR' kE' bb'
    obtain ⟨⟨s0, s1, s2, s3, s4⟩, f0, f1, f2, f3, f4⟩ := quint kE.out
    obtain ⟨⟨t0, t1, t2, t3, t4⟩, g0, g1, g2, g3, g4⟩ := quint kR.out
    have kR' := aside (blk_other (k := 0) kR.out n2 (.string kd))
    have kE' : Hid ((w4.setCell ⟨w3.heap.size, 0, none⟩ (.string kd)).heap[w3.heap.size]? = some (.cells #[.string kd, .int .i64 0, .int .i64 0, .string ⟨#[]⟩, .bool false] 25 (0, 0))) := heap_setCell_same w4 w3.heap.size 0 _ _ (.string kd) kE.out
    have bb' := aside (bb.out.setCell (p := ⟨w3.heap.size, 0, none⟩) n3 (.string kd))
    clear kR kE bb
    have kR := kR'
    have kE := kE'
    have bb := bb'
    clear kR' kE' bb'
    obtain ⟨⟨x0, x1, x2, x3, x4⟩, y0, y1, y2, y3, y4⟩ := quint kE.out
    obtain ⟨⟨v0, v1, v2, v3, v4⟩, -⟩ := quint kR.out
    go_wp2_with fail
    refine (U2.out _).mono ?_
    rintro r w5 ⟨rfl, b'⟩
    have kR' := aside (blk_on kR.out b')
    have kE' := aside (blk_on kE.out b')
    have bb' := aside (bthen bb.out b')
    clear x0 x1 x2 x3 x4 y0 y1 y2 y3 y4 v0 v1 v2 v3 v4 s0 s1 s2 s3 s4 f0 f1 f2 f3 f4 t0 t1 t2 t3 t4 g0 g1 g2 g3 g4 kR kE bb b'
    have kR := kR'
    have kE := kE'
    have bb := bb'
    clear kR' kE' bb'
    obtain ⟨⟨s0, s1, s2, s3, s4⟩, f0, f1, f2, f3, f4⟩ := quint kE.out
    obtain ⟨⟨t0, t1, t2, t3, t4⟩, g0, g1, g2, g3, g4⟩ := quint kR.out
    have kR' := aside (blk_other (k := 3) kR.out n2 (.string vd))
    have kE' : Hid ((w5.setCell ⟨w3.heap.size, 3, none⟩ (.string vd)).heap[w3.heap.size]? = some (.cells #[.string kd, .int .i64 0, .int .i64 0, .string vd, .bool false] 25 (0, 0))) := heap_setCell_same w5 w3.heap.size 3 _ _ (.string vd) kE.out
    have bb' := aside (bb.out.setCell (p := ⟨w3.heap.size, 3, none⟩) n3 (.string vd))
    clear kR kE bb
    have kR := kR'
    have kE := kE'
    have bb := bb'
    clear kR' kE' bb'
    obtain ⟨⟨x0, x1, x2, x3, x4⟩, y0, y1, y2, y3, y4⟩ := quint kE.out
    obtain ⟨⟨v0, v1, v2, v3, v4⟩, -⟩ := quint kR.out
    go_wp2_with fail
    refine (N1.out _).mono ?_
    rintro r w6 ⟨rfl, b'⟩
    have kR' := aside (blk_on kR.out b')
    have kE' := aside (blk_on kE.out b')
    have bb' := aside (bthen bb.out b')
    clear x0 x1 x2 x3 x4 y0 y1 y2 y3 y4 v0 v1 v2 v3 v4 s0 s1 s2 s3 s4 f0 f1 f2 f3 f4 t0 t1 t2 t3 t4 g0 g1 g2 g3 g4 kR kE bb b'
    have kR := kR'
    have kE := kE'
    have bb := bb'
    clear kR' kE' bb'
    obtain ⟨⟨s0, s1, s2, s3, s4⟩, f0, f1, f2, f3, f4⟩ := quint kE.out
    obtain ⟨⟨t0, t1, t2, t3, t4⟩, g0, g1, g2, g3, g4⟩ := quint kR.out
    go_wp2_with fail
    refine (N2.out _).mono ?_
    rintro r w7 ⟨rfl, b'⟩
    have kR' := aside (blk_on kR.out b')
    have kE' := aside (blk_on kE.out b')
    have bb' := aside (bthen bb.out b')
    clear s0 s1 s2 s3 s4 f0 f1 f2 f3 f4 t0 t1 t2 t3 t4 g0 g1 g2 g3 g4 kR kE bb b'
    have kR := kR'
    have kE := kE'
    have bb := bb'
    clear kR' kE' bb'
    obtain ⟨⟨s0, s1, s2, s3, s4⟩, f0, f1, f2, f3, f4⟩ := quint kE.out
    obtain ⟨⟨t0, t1, t2, t3, t4⟩, g0, g1, g2, g3, g4⟩ := quint kR.out
    have bF := bb.out
    clear kR kE bb
    go_wp2
    refine bodyPost_ret (v := .tuple #[.agg #[.string ⟨#[]⟩, .int .i64 0, .int .i64 0, .string ⟨#[]⟩, .bool false], .int .i64 23]) (by simp [results, Tryd.results8, go_sem, t0, t1, t2, t3, t4]) rfl ⟨rfl, ?_⟩
    exact set5r bF (Nat.le_refl _) _ _ _ _ _

set_option maxRecDepth 100000 in
set_option maxHeartbeats 6400000 in
theorem pr_chkL (s K R V X A B : ByteArray) (kd : ByteArray) (e1 : Int) (vd : ByteArray) (e2 : Int) (c n : Int) (q : Int) (w : World) (C1 : Hid (∀ w, Calls Tryd.prog 16 #[.string s, .int .u8 32] w fun r w' => r = .returned (.tuple #[.string K, .string R, .bool true]) ∧ Below w.heap.size w w'))
    (C2 : Hid (∀ w, Calls Tryd.prog 16 #[.string R, .int .u8 32] w fun r w' => r = .returned (.tuple #[.string V, .string X, .bool true]) ∧ Below w.heap.size w w'))
    (C3 : Hid (∀ w, Calls Tryd.prog 16 #[.string V, .int .u8 46] w fun r w' => r = .returned (.tuple #[.string A, .string B, .bool true]) ∧ Below w.heap.size w w')) (hK1 : K.toList.isEmpty = false) (hK2 : (K.toList == []) = false) (x : UInt8) (ix : ∀ w, (Instr.index 9 (.string K) (.int .i64 0)).run Tryd.prog w = .ok (.int .u8 (x.toNat : Int)) w) (hx : ((x.toNat : Int) != 107) = false) (hX1 : X.toList.isEmpty = false) (hX2 : (X.toList == []) = false) (hX : (X.toList == [120]) = false) (y : UInt8) (ixX : ∀ w, (Instr.index 9 (.string X) (.int .i64 0)).run Tryd.prog w = .ok (.int .u8 (y.toNat : Int)) w) (hy : ((y.toNat : Int) != 61) = false) (hXs : (1 : Int) ≤ X.size) (hKs : (1 : Int) ≤ K.size) (U1 : Hid (∀ w, Calls Tryd.prog 17 #[.string (K.extract 1 K.size)] w fun r w' => r = .returned (.tuple #[.string kd, .int .i64 e1]) ∧ Below w.heap.size w w')) (he1 : e1 = 0) (U2 : Hid (∀ w, Calls Tryd.prog 17 #[.string (X.extract 1 X.size)] w fun r w' => r = .returned (.tuple #[.string vd, .int .i64 e2]) ∧ Below w.heap.size w w')) (he2 : e2 = 0) (N1 : Hid (∀ w, Calls Tryd.prog 18 #[.string A] w fun r w' => r = .returned (.tuple #[.int .i64 c, .bool true]) ∧ Below w.heap.size w w')) (N2 : Hid (∀ w, Calls Tryd.prog 18 #[.string B] w fun r w' => r = .returned (.tuple #[.int .i64 n, .bool true]) ∧ Below w.heap.size w w')) (hq : En.chk ⟨kd, c, n, vd, false⟩ = q) (hne : q ≠ 0) :
    Calls Tryd.prog 8 #[.string s] w fun r w' => r = .returned (.tuple #[.agg #[.string ⟨#[]⟩, .int .i64 0, .int .i64 0, .string ⟨#[]⟩, .bool false], .int .i64 q]) ∧ Below w.heap.size w w' := by
  have Z := aside (heap_alloc_new w (.cells #[.string ⟨#[]⟩, .int .i64 0, .int .i64 0, .string ⟨#[]⟩, .bool false] 25))
  subst he1
  subst he2
  have CQ := aside (fun w => checkRef_is hq w)
  clear hq
  have heq : (q != 0) = true := by simp [hne]
  clear hne
  go_enter Tryd.func8, Tryd.ntmps8
  go_wp2_with fail
  refine (C1.out _).mono ?_
  rintro r w1 ⟨rfl, b1⟩
  have Z1 := aside (blk_on Z.out b1)
  have b01 := bthen (bnew w _) b1
  clear b1
  go_wp2_with fail
  refine (C2.out _).mono ?_
  rintro r w2 ⟨rfl, b2⟩
  have Z2 := aside (blk_on Z1.out b2)
  have b02 := bthen b01 b2
  clear b2 b01 Z1
  go_wp2_with fail
  refine (C3.out _).mono ?_
  rintro r w3 ⟨rfl, b3⟩
  have Z3 := aside (blk_on Z2.out b3)
  have b03 := bthen b02 b3
  obtain ⟨⟨t0, t1, t2, t3, t4⟩, g0, g1, g2, g3, g4⟩ := quint Z3.out
  clear b3 b02 Z2
  have kE := aside (heap_alloc_new w3 (.cells #[.string ⟨#[]⟩, .int .i64 0, .int .i64 0, .string ⟨#[]⟩, .bool false] 25))
  have kR := aside (blk_on Z3.out (bnew w3 (.cells #[.string ⟨#[]⟩, .int .i64 0, .int .i64 0, .string ⟨#[]⟩, .bool false] 25)))
  have n2 : w.heap.size ≠ w3.heap.size := by have := (Array.getElem?_eq_some_iff.1 Z3.out).1; omega
  have n3 : w.heap.size ≤ w3.heap.size := by have := (Array.getElem?_eq_some_iff.1 Z3.out).1; omega
  have bb := aside (bthen b03 (bnew w3 (.cells #[.string ⟨#[]⟩, .int .i64 0, .int .i64 0, .string ⟨#[]⟩, .bool false] 25)))
  obtain ⟨⟨s0, s1, s2, s3, s4⟩, f0, f1, f2, f3, f4⟩ := quint kE.out
  clear Z3 b03
  go_wp2_with fail
  refine (U1.out _).mono ?_
  rintro r w4 ⟨rfl, b'⟩
  have kR' := aside (blk_on kR.out b')
  have kE' := aside (blk_on kE.out b')
  have bb' := aside (bthen bb.out b')
  clear s0 s1 s2 s3 s4 f0 f1 f2 f3 f4 t0 t1 t2 t3 t4 g0 g1 g2 g3 g4 kR kE bb b'
  have kR := kR'
  have kE := kE'
  have bb := bb'
  clear kR' kE' bb'
  obtain ⟨⟨s0, s1, s2, s3, s4⟩, f0, f1, f2, f3, f4⟩ := quint kE.out
  obtain ⟨⟨t0, t1, t2, t3, t4⟩, g0, g1, g2, g3, g4⟩ := quint kR.out
  have kR' := aside (blk_other (k := 0) kR.out n2 (.string kd))
  have kE' : Hid ((w4.setCell ⟨w3.heap.size, 0, none⟩ (.string kd)).heap[w3.heap.size]? = some (.cells #[.string kd, .int .i64 0, .int .i64 0, .string ⟨#[]⟩, .bool false] 25 (0, 0))) := heap_setCell_same w4 w3.heap.size 0 _ _ (.string kd) kE.out
  have bb' := aside (bb.out.setCell (p := ⟨w3.heap.size, 0, none⟩) n3 (.string kd))
  clear kR kE bb
  have kR := kR'
  have kE := kE'
  have bb := bb'
  clear kR' kE' bb'
  obtain ⟨⟨x0, x1, x2, x3, x4⟩, y0, y1, y2, y3, y4⟩ := quint kE.out
  obtain ⟨⟨v0, v1, v2, v3, v4⟩, -⟩ := quint kR.out
  go_wp2_with fail
  refine (U2.out _).mono ?_
  rintro r w5 ⟨rfl, b'⟩
  have kR' := aside (blk_on kR.out b')
  have kE' := aside (blk_on kE.out b')
  have bb' := aside (bthen bb.out b')
  clear x0 x1 x2 x3 x4 y0 y1 y2 y3 y4 v0 v1 v2 v3 v4 s0 s1 s2 s3 s4 f0 f1 f2 f3 f4 t0 t1 t2 t3 t4 g0 g1 g2 g3 g4 kR kE bb b'
  have kR := kR'
  have kE := kE'
  have bb := bb'
  clear kR' kE' bb'
  obtain ⟨⟨s0, s1, s2, s3, s4⟩, f0, f1, f2, f3, f4⟩ := quint kE.out
  obtain ⟨⟨t0, t1, t2, t3, t4⟩, g0, g1, g2, g3, g4⟩ := quint kR.out
  have kR' := aside (blk_other (k := 3) kR.out n2 (.string vd))
  have kE' : Hid ((w5.setCell ⟨w3.heap.size, 3, none⟩ (.string vd)).heap[w3.heap.size]? = some (.cells #[.string kd, .int .i64 0, .int .i64 0, .string vd, .bool false] 25 (0, 0))) := heap_setCell_same w5 w3.heap.size 3 _ _ (.string vd) kE.out
  have bb' := aside (bb.out.setCell (p := ⟨w3.heap.size, 3, none⟩) n3 (.string vd))
  clear kR kE bb
  have kR := kR'
  have kE := kE'
  have bb := bb'
  clear kR' kE' bb'
  obtain ⟨⟨x0, x1, x2, x3, x4⟩, y0, y1, y2, y3, y4⟩ := quint kE.out
  obtain ⟨⟨v0, v1, v2, v3, v4⟩, -⟩ := quint kR.out
  go_wp2_with fail
  refine (N1.out _).mono ?_
  rintro r w6 ⟨rfl, b'⟩
  have kR' := aside (blk_on kR.out b')
  have kE' := aside (blk_on kE.out b')
  have bb' := aside (bthen bb.out b')
  clear x0 x1 x2 x3 x4 y0 y1 y2 y3 y4 v0 v1 v2 v3 v4 s0 s1 s2 s3 s4 f0 f1 f2 f3 f4 t0 t1 t2 t3 t4 g0 g1 g2 g3 g4 kR kE bb b'
  have kR := kR'
  have kE := kE'
  have bb := bb'
  clear kR' kE' bb'
  obtain ⟨⟨s0, s1, s2, s3, s4⟩, f0, f1, f2, f3, f4⟩ := quint kE.out
  obtain ⟨⟨t0, t1, t2, t3, t4⟩, g0, g1, g2, g3, g4⟩ := quint kR.out
  go_wp2_with fail
  refine (N2.out _).mono ?_
  rintro r w7 ⟨rfl, b'⟩
  have kR' := aside (blk_on kR.out b')
  have kE' := aside (blk_on kE.out b')
  have bb' := aside (bthen bb.out b')
  clear s0 s1 s2 s3 s4 f0 f1 f2 f3 f4 t0 t1 t2 t3 t4 g0 g1 g2 g3 g4 kR kE bb b'
  have kR := kR'
  have kE := kE'
  have bb := bb'
  clear kR' kE' bb'
  obtain ⟨⟨s0, s1, s2, s3, s4⟩, f0, f1, f2, f3, f4⟩ := quint kE.out
  obtain ⟨⟨t0, t1, t2, t3, t4⟩, g0, g1, g2, g3, g4⟩ := quint kR.out
  have kR' := aside (blk_other (k := 1) kR.out n2 (.int .i64 c))
  have kE' : Hid ((w7.setCell ⟨w3.heap.size, 1, none⟩ (.int .i64 c)).heap[w3.heap.size]? = some (.cells #[.string kd, .int .i64 c, .int .i64 0, .string vd, .bool false] 25 (0, 0))) := heap_setCell_same w7 w3.heap.size 1 _ _ (.int .i64 c) kE.out
  have bb' := aside (bb.out.setCell (p := ⟨w3.heap.size, 1, none⟩) n3 (.int .i64 c))
  clear kR kE bb
  have kR := kR'
  have kE := kE'
  have bb := bb'
  clear kR' kE' bb'
  have kR' := aside (blk_other (k := 2) kR.out n2 (.int .i64 n))
  have kE' : Hid (((w7.setCell ⟨w3.heap.size, 1, none⟩ (.int .i64 c)).setCell ⟨w3.heap.size, 2, none⟩ (.int .i64 n)).heap[w3.heap.size]? = some (.cells #[.string kd, .int .i64 c, .int .i64 n, .string vd, .bool false] 25 (0, 0))) := heap_setCell_same (w7.setCell ⟨w3.heap.size, 1, none⟩ (.int .i64 c)) w3.heap.size 2 _ _ (.int .i64 n) kE.out
  have bb' := aside (bb.out.setCell (p := ⟨w3.heap.size, 2, none⟩) n3 (.int .i64 n))
  clear kR kE bb
  have kR := kR'
  have kE := kE'
  have bb := bb'
  clear kR' kE' bb'
  obtain ⟨⟨x0, x1, x2, x3, x4⟩, y0, y1, y2, y3, y4⟩ := quint kE.out
  obtain ⟨⟨v0, v1, v2, v3, v4⟩, -⟩ := quint kR.out
  go_wp2_with fail
  refine (CQ.out _).mono ?_
  rintro r w8 ⟨rfl, b'⟩
  have kR' := aside (blk_on kR.out b')
  have kE' := aside (blk_on kE.out b')
  have bb' := aside (bthen bb.out b')
  clear x0 x1 x2 x3 x4 y0 y1 y2 y3 y4 v0 v1 v2 v3 v4 s0 s1 s2 s3 s4 f0 f1 f2 f3 f4 t0 t1 t2 t3 t4 g0 g1 g2 g3 g4 kR kE bb b'
  have kR := kR'
  have kE := kE'
  have bb := bb'
  clear kR' kE' bb'
  obtain ⟨⟨s0, s1, s2, s3, s4⟩, f0, f1, f2, f3, f4⟩ := quint kE.out
  obtain ⟨⟨t0, t1, t2, t3, t4⟩, g0, g1, g2, g3, g4⟩ := quint kR.out
  have bF := bb.out
  clear kR kE bb
  go_wp2
  refine bodyPost_ret (v := .tuple #[.agg #[.string ⟨#[]⟩, .int .i64 0, .int .i64 0, .string ⟨#[]⟩, .bool false], .int .i64 q]) (by simp [results, Tryd.results8, go_sem, t0, t1, t2, t3, t4]) rfl ⟨rfl, ?_⟩
  exact set5r bF (Nat.le_refl _) _ _ _ _ _

set_option maxRecDepth 100000 in
set_option maxHeartbeats 6400000 in
theorem pr_okL (s K R V X A B : ByteArray) (kd : ByteArray) (e1 : Int) (vd : ByteArray) (e2 : Int) (c n : Int) (w : World) (C1 : Hid (∀ w, Calls Tryd.prog 16 #[.string s, .int .u8 32] w fun r w' => r = .returned (.tuple #[.string K, .string R, .bool true]) ∧ Below w.heap.size w w'))
    (C2 : Hid (∀ w, Calls Tryd.prog 16 #[.string R, .int .u8 32] w fun r w' => r = .returned (.tuple #[.string V, .string X, .bool true]) ∧ Below w.heap.size w w'))
    (C3 : Hid (∀ w, Calls Tryd.prog 16 #[.string V, .int .u8 46] w fun r w' => r = .returned (.tuple #[.string A, .string B, .bool true]) ∧ Below w.heap.size w w')) (hK1 : K.toList.isEmpty = false) (hK2 : (K.toList == []) = false) (x : UInt8) (ix : ∀ w, (Instr.index 9 (.string K) (.int .i64 0)).run Tryd.prog w = .ok (.int .u8 (x.toNat : Int)) w) (hx : ((x.toNat : Int) != 107) = false) (hX1 : X.toList.isEmpty = false) (hX2 : (X.toList == []) = false) (hX : (X.toList == [120]) = false) (y : UInt8) (ixX : ∀ w, (Instr.index 9 (.string X) (.int .i64 0)).run Tryd.prog w = .ok (.int .u8 (y.toNat : Int)) w) (hy : ((y.toNat : Int) != 61) = false) (hXs : (1 : Int) ≤ X.size) (hKs : (1 : Int) ≤ K.size) (U1 : Hid (∀ w, Calls Tryd.prog 17 #[.string (K.extract 1 K.size)] w fun r w' => r = .returned (.tuple #[.string kd, .int .i64 e1]) ∧ Below w.heap.size w w')) (he1 : e1 = 0) (U2 : Hid (∀ w, Calls Tryd.prog 17 #[.string (X.extract 1 X.size)] w fun r w' => r = .returned (.tuple #[.string vd, .int .i64 e2]) ∧ Below w.heap.size w w')) (he2 : e2 = 0) (N1 : Hid (∀ w, Calls Tryd.prog 18 #[.string A] w fun r w' => r = .returned (.tuple #[.int .i64 c, .bool true]) ∧ Below w.heap.size w w')) (N2 : Hid (∀ w, Calls Tryd.prog 18 #[.string B] w fun r w' => r = .returned (.tuple #[.int .i64 n, .bool true]) ∧ Below w.heap.size w w')) (hq : En.chk ⟨kd, c, n, vd, false⟩ = 0) :
    Calls Tryd.prog 8 #[.string s] w fun r w' => r = .returned (.tuple #[.agg #[.string kd, .int .i64 c, .int .i64 n, .string vd, .bool false], .int .i64 0]) ∧ Below w.heap.size w w' := by
  have Z := aside (heap_alloc_new w (.cells #[.string ⟨#[]⟩, .int .i64 0, .int .i64 0, .string ⟨#[]⟩, .bool false] 25))
  subst he1
  subst he2
  have CQ := aside (fun w => checkRef_is hq w)
  clear hq
  go_enter Tryd.func8, Tryd.ntmps8
  go_wp2_with fail
  refine (C1.out _).mono ?_
  rintro r w1 ⟨rfl, b1⟩
  have Z1 := aside (blk_on Z.out b1)
  have b01 := bthen (bnew w _) b1
  clear b1
  go_wp2_with fail
  refine (C2.out _).mono ?_
  rintro r w2 ⟨rfl, b2⟩
  have Z2 := aside (blk_on Z1.out b2)
  have b02 := bthen b01 b2
  clear b2 b01 Z1
  go_wp2_with fail
  refine (C3.out _).mono ?_
  rintro r w3 ⟨rfl, b3⟩
  have Z3 := aside (blk_on Z2.out b3)
  have b03 := bthen b02 b3
  obtain ⟨⟨t0, t1, t2, t3, t4⟩, g0, g1, g2, g3, g4⟩ := quint Z3.out
  clear b3 b02 Z2
  have kE := aside (heap_alloc_new w3 (.cells #[.string ⟨#[]⟩, .int .i64 0, .int .i64 0, .string ⟨#[]⟩, .bool false] 25))
  have kR := aside (blk_on Z3.out (bnew w3 (.cells #[.string ⟨#[]⟩, .int .i64 0, .int .i64 0, .string ⟨#[]⟩, .bool false] 25)))
  have n2 : w.heap.size ≠ w3.heap.size := by have := (Array.getElem?_eq_some_iff.1 Z3.out).1; omega
  have n3 : w.heap.size ≤ w3.heap.size := by have := (Array.getElem?_eq_some_iff.1 Z3.out).1; omega
  have bb := aside (bthen b03 (bnew w3 (.cells #[.string ⟨#[]⟩, .int .i64 0, .int .i64 0, .string ⟨#[]⟩, .bool false] 25)))
  obtain ⟨⟨s0, s1, s2, s3, s4⟩, f0, f1, f2, f3, f4⟩ := quint kE.out
  clear Z3 b03
  go_wp2_with fail
  refine (U1.out _).mono ?_
  rintro r w4 ⟨rfl, b'⟩
  have kR' := aside (blk_on kR.out b')
  have kE' := aside (blk_on kE.out b')
  have bb' := aside (bthen bb.out b')
  clear s0 s1 s2 s3 s4 f0 f1 f2 f3 f4 t0 t1 t2 t3 t4 g0 g1 g2 g3 g4 kR kE bb b'
  have kR := kR'
  have kE := kE'
  have bb := bb'
  clear kR' kE' bb'
  obtain ⟨⟨s0, s1, s2, s3, s4⟩, f0, f1, f2, f3, f4⟩ := quint kE.out
  obtain ⟨⟨t0, t1, t2, t3, t4⟩, g0, g1, g2, g3, g4⟩ := quint kR.out
  have kR' := aside (blk_other (k := 0) kR.out n2 (.string kd))
  have kE' : Hid ((w4.setCell ⟨w3.heap.size, 0, none⟩ (.string kd)).heap[w3.heap.size]? = some (.cells #[.string kd, .int .i64 0, .int .i64 0, .string ⟨#[]⟩, .bool false] 25 (0, 0))) := heap_setCell_same w4 w3.heap.size 0 _ _ (.string kd) kE.out
  have bb' := aside (bb.out.setCell (p := ⟨w3.heap.size, 0, none⟩) n3 (.string kd))
  clear kR kE bb
  have kR := kR'
  have kE := kE'
  have bb := bb'
  clear kR' kE' bb'
  obtain ⟨⟨x0, x1, x2, x3, x4⟩, y0, y1, y2, y3, y4⟩ := quint kE.out
  obtain ⟨⟨v0, v1, v2, v3, v4⟩, -⟩ := quint kR.out
  go_wp2_with fail
  refine (U2.out _).mono ?_
  rintro r w5 ⟨rfl, b'⟩
  have kR' := aside (blk_on kR.out b')
  have kE' := aside (blk_on kE.out b')
  have bb' := aside (bthen bb.out b')
  clear x0 x1 x2 x3 x4 y0 y1 y2 y3 y4 v0 v1 v2 v3 v4 s0 s1 s2 s3 s4 f0 f1 f2 f3 f4 t0 t1 t2 t3 t4 g0 g1 g2 g3 g4 kR kE bb b'
  have kR := kR'
  have kE := kE'
  have bb := bb'
  clear kR' kE' bb'
  obtain ⟨⟨s0, s1, s2, s3, s4⟩, f0, f1, f2, f3, f4⟩ := quint kE.out
  obtain ⟨⟨t0, t1, t2, t3, t4⟩, g0, g1, g2, g3, g4⟩ := quint kR.out
  have kR' := aside (blk_other (k := 3) kR.out n2 (.string vd))
  have kE' : Hid ((w5.setCell ⟨w3.heap.size, 3, none⟩ (.string vd)).heap[w3.heap.size]? = some (.cells #[.string kd, .int .i64 0, .int .i64 0, .string vd, .bool false] 25 (0, 0))) := heap_setCell_same w5 w3.heap.size 3 _ _ (.string vd) kE.out
  have bb' := aside (bb.out.setCell (p := ⟨w3.heap.size, 3, none⟩) n3 (.string vd))
  clear kR kE bb
  have kR := kR'
  have kE := kE'
  have bb := bb'
  clear kR' kE' bb'
  obtain ⟨⟨x0, x1, x2, x3, x4⟩, y0, y1, y2, y3, y4⟩ := quint kE.out
  obtain ⟨⟨v0, v1, v2, v3, v4⟩, -⟩ := quint kR.out
  go_wp2_with fail
  refine (N1.out _).mono ?_
  rintro r w6 ⟨rfl, b'⟩
  have kR' := aside (blk_on kR.out b')
  have kE' := aside (blk_on kE.out b')
  have bb' := aside (bthen bb.out b')
  clear x0 x1 x2 x3 x4 y0 y1 y2 y3 y4 v0 v1 v2 v3 v4 s0 s1 s2 s3 s4 f0 f1 f2 f3 f4 t0 t1 t2 t3 t4 g0 g1 g2 g3 g4 kR kE bb b'
  have kR := kR'
  have kE := kE'
  have bb := bb'
  clear kR' kE' bb'
  obtain ⟨⟨s0, s1, s2, s3, s4⟩, f0, f1, f2, f3, f4⟩ := quint kE.out
  obtain ⟨⟨t0, t1, t2, t3, t4⟩, g0, g1, g2, g3, g4⟩ := quint kR.out
  go_wp2_with fail
  refine (N2.out _).mono ?_
  rintro r w7 ⟨rfl, b'⟩
  have kR' := aside (blk_on kR.out b')
  have kE' := aside (blk_on kE.out b')
  have bb' := aside (bthen bb.out b')
  clear s0 s1 s2 s3 s4 f0 f1 f2 f3 f4 t0 t1 t2 t3 t4 g0 g1 g2 g3 g4 kR kE bb b'
  have kR := kR'
  have kE := kE'
  have bb := bb'
  clear kR' kE' bb'
  obtain ⟨⟨s0, s1, s2, s3, s4⟩, f0, f1, f2, f3, f4⟩ := quint kE.out
  obtain ⟨⟨t0, t1, t2, t3, t4⟩, g0, g1, g2, g3, g4⟩ := quint kR.out
  have kR' := aside (blk_other (k := 1) kR.out n2 (.int .i64 c))
  have kE' : Hid ((w7.setCell ⟨w3.heap.size, 1, none⟩ (.int .i64 c)).heap[w3.heap.size]? = some (.cells #[.string kd, .int .i64 c, .int .i64 0, .string vd, .bool false] 25 (0, 0))) := heap_setCell_same w7 w3.heap.size 1 _ _ (.int .i64 c) kE.out
  have bb' := aside (bb.out.setCell (p := ⟨w3.heap.size, 1, none⟩) n3 (.int .i64 c))
  clear kR kE bb
  have kR := kR'
  have kE := kE'
  have bb := bb'
  clear kR' kE' bb'
  have kR' := aside (blk_other (k := 2) kR.out n2 (.int .i64 n))
  have kE' : Hid (((w7.setCell ⟨w3.heap.size, 1, none⟩ (.int .i64 c)).setCell ⟨w3.heap.size, 2, none⟩ (.int .i64 n)).heap[w3.heap.size]? = some (.cells #[.string kd, .int .i64 c, .int .i64 n, .string vd, .bool false] 25 (0, 0))) := heap_setCell_same (w7.setCell ⟨w3.heap.size, 1, none⟩ (.int .i64 c)) w3.heap.size 2 _ _ (.int .i64 n) kE.out
  have bb' := aside (bb.out.setCell (p := ⟨w3.heap.size, 2, none⟩) n3 (.int .i64 n))
  clear kR kE bb
  have kR := kR'
  have kE := kE'
  have bb := bb'
  clear kR' kE' bb'
  obtain ⟨⟨x0, x1, x2, x3, x4⟩, y0, y1, y2, y3, y4⟩ := quint kE.out
  obtain ⟨⟨v0, v1, v2, v3, v4⟩, -⟩ := quint kR.out
  go_wp2_with fail
  refine (CQ.out _).mono ?_
  rintro r w8 ⟨rfl, b'⟩
  have kR' := aside (blk_on kR.out b')
  have kE' := aside (blk_on kE.out b')
  have bb' := aside (bthen bb.out b')
  clear x0 x1 x2 x3 x4 y0 y1 y2 y3 y4 v0 v1 v2 v3 v4 s0 s1 s2 s3 s4 f0 f1 f2 f3 f4 t0 t1 t2 t3 t4 g0 g1 g2 g3 g4 kR kE bb b'
  have kR := kR'
  have kE := kE'
  have bb := bb'
  clear kR' kE' bb'
  obtain ⟨⟨s0, s1, s2, s3, s4⟩, f0, f1, f2, f3, f4⟩ := quint kE.out
  obtain ⟨⟨t0, t1, t2, t3, t4⟩, g0, g1, g2, g3, g4⟩ := quint kR.out
  have bF := bb.out
  clear kR kE bb
  go_wp2
  refine bodyPost_ret (v := .tuple #[.agg #[.string kd, .int .i64 c, .int .i64 n, .string vd, .bool false], .int .i64 0]) (by simp [results, Tryd.results8, go_sem, t0, t1, t2, t3, t4]) rfl ⟨rfl, ?_⟩
  exact set5r bF (Nat.le_refl _) _ _ _ _ _

set_option maxRecDepth 100000 in
set_option maxHeartbeats 6400000 in
theorem pr_hexkD (s K R V X A B : ByteArray) (kd : ByteArray) (e1 : Int) (w : World) (C1 : Hid (∀ w, Calls Tryd.prog 16 #[.string s, .int .u8 32] w fun r w' => r = .returned (.tuple #[.string K, .string R, .bool true]) ∧ Below w.heap.size w w'))
    (C2 : Hid (∀ w, Calls Tryd.prog 16 #[.string R, .int .u8 32] w fun r w' => r = .returned (.tuple #[.string V, .string X, .bool true]) ∧ Below w.heap.size w w'))
    (C3 : Hid (∀ w, Calls Tryd.prog 16 #[.string V, .int .u8 46] w fun r w' => r = .returned (.tuple #[.string A, .string B, .bool true]) ∧ Below w.heap.size w w')) (hK1 : K.toList.isEmpty = false) (hK2 : (K.toList == []) = false) (x : UInt8) (ix : ∀ w, (Instr.index 9 (.string K) (.int .i64 0)).run Tryd.prog w = .ok (.int .u8 (x.toNat : Int)) w) (hx : ((x.toNat : Int) != 107) = false) (hX1 : X.toList.isEmpty = false) (hX2 : (X.toList == []) = false) (hX : (X.toList == [120]) = true) (hKs : (1 : Int) ≤ K.size) (U1 : Hid (∀ w, Calls Tryd.prog 17 #[.string (K.extract 1 K.size)] w fun r w' => r = .returned (.tuple #[.string kd, .int .i64 e1]) ∧ Below w.heap.size w w')) (he1 : (e1 != 0) = true) :
    Calls Tryd.prog 8 #[.string s] w fun r w' => r = .returned (.tuple #[.agg #[.string ⟨#[]⟩, .int .i64 0, .int .i64 0, .string ⟨#[]⟩, .bool false], .int .i64 23]) ∧ Below w.heap.size w w' := by
  have Z := aside (heap_alloc_new w (.cells #[.string ⟨#[]⟩, .int .i64 0, .int .i64 0, .string ⟨#[]⟩, .bool false] 25))
  go_enter Tryd.func8, Tryd.ntmps8
  go_wp2_with fail
  refine (C1.out _).mono ?_
  rintro r w1 ⟨rfl, b1⟩
  have Z1 := aside (blk_on Z.out b1)
  have b01 := bthen (bnew w _) b1
  clear b1
  go_wp2_with fail
  refine (C2.out _).mono ?_
  rintro r w2 ⟨rfl, b2⟩
  have Z2 := aside (blk_on Z1.out b2)
  have b02 := bthen b01 b2
  clear b2 b01 Z1
  go_wp2_with fail
  refine (C3.out _).mono ?_
  rintro r w3 ⟨rfl, b3⟩
  have Z3 := aside (blk_on Z2.out b3)
  have b03 := bthen b02 b3
  obtain ⟨⟨t0, t1, t2, t3, t4⟩, g0, g1, g2, g3, g4⟩ := quint Z3.out
  clear b3 b02 Z2
  have kE := aside (heap_alloc_new w3 (.cells #[.string ⟨#[]⟩, .int .i64 0, .int .i64 0, .string ⟨#[]⟩, .bool true] 25))
  have kR := aside (blk_on Z3.out (bnew w3 (.cells #[.string ⟨#[]⟩, .int .i64 0, .int .i64 0, .string ⟨#[]⟩, .bool true] 25)))
  have n2 : w.heap.size ≠ w3.heap.size := by have := (Array.getElem?_eq_some_iff.1 Z3.out).1; omega
  have n3 : w.heap.size ≤ w3.heap.size := by have := (Array.getElem?_eq_some_iff.1 Z3.out).1; omega
  have bb := aside (bthen b03 (bnew w3 (.cells #[.string ⟨#[]⟩, .int .i64 0, .int .i64 0, .string ⟨#[]⟩, .bool true] 25)))
  obtain ⟨⟨s0, s1, s2, s3, s4⟩, f0, f1, f2, f3, f4⟩ := quint kE.out
  clear Z3 b03
  go_wp2_with fail
  refine (U1.out _).mono ?_
  rintro r w4 ⟨rfl, b'⟩
  have kR' := aside (blk_on kR.out b')
  have kE' := aside (blk_on kE.out b')
  have bb' := aside (bthen bb.out b')
  clear s0 s1 s2 s3 s4 f0 f1 f2 f3 f4 t0 t1 t2 t3 t4 g0 g1 g2 g3 g4 kR kE bb b'
  have kR := kR'
  have kE := kE'
  have bb := bb'
  clear kR' kE' bb'
  obtain ⟨⟨s0, s1, s2, s3, s4⟩, f0, f1, f2, f3, f4⟩ := quint kE.out
  obtain ⟨⟨t0, t1, t2, t3, t4⟩, g0, g1, g2, g3, g4⟩ := quint kR.out
  have bF := bb.out
  clear kR kE bb
  go_wp2
  refine bodyPost_ret (v := .tuple #[.agg #[.string ⟨#[]⟩, .int .i64 0, .int .i64 0, .string ⟨#[]⟩, .bool false], .int .i64 23]) (by simp [results, Tryd.results8, go_sem, t0, t1, t2, t3, t4]) rfl ⟨rfl, ?_⟩
  exact set5r bF (Nat.le_refl _) _ _ _ _ _

set_option maxRecDepth 100000 in
set_option maxHeartbeats 6400000 in
theorem pr_numD (s K R V X A B : ByteArray) (kd : ByteArray) (e1 : Int) (c n : Int) (fx fy : Bool) (w : World) (C1 : Hid (∀ w, Calls Tryd.prog 16 #[.string s, .int .u8 32] w fun r w' => r = .returned (.tuple #[.string K, .string R, .bool true]) ∧ Below w.heap.size w w'))
    (C2 : Hid (∀ w, Calls Tryd.prog 16 #[.string R, .int .u8 32] w fun r w' => r = .returned (.tuple #[.string V, .string X, .bool true]) ∧ Below w.heap.size w w'))
    (C3 : Hid (∀ w, Calls Tryd.prog 16 #[.string V, .int .u8 46] w fun r w' => r = .returned (.tuple #[.string A, .string B, .bool true]) ∧ Below w.heap.size w w')) (hK1 : K.toList.isEmpty = false) (hK2 : (K.toList == []) = false) (x : UInt8) (ix : ∀ w, (Instr.index 9 (.string K) (.int .i64 0)).run Tryd.prog w = .ok (.int .u8 (x.toNat : Int)) w) (hx : ((x.toNat : Int) != 107) = false) (hX1 : X.toList.isEmpty = false) (hX2 : (X.toList == []) = false) (hX : (X.toList == [120]) = true) (hKs : (1 : Int) ≤ K.size) (U1 : Hid (∀ w, Calls Tryd.prog 17 #[.string (K.extract 1 K.size)] w fun r w' => r = .returned (.tuple #[.string kd, .int .i64 e1]) ∧ Below w.heap.size w w')) (he1 : e1 = 0) (N1 : Hid (∀ w, Calls Tryd.prog 18 #[.string A] w fun r w' => r = .returned (.tuple #[.int .i64 c, .bool fx]) ∧ Below w.heap.size w w')) (N2 : Hid (∀ w, Calls Tryd.prog 18 #[.string B] w fun r w' => r = .returned (.tuple #[.int .i64 n, .bool fy]) ∧ Below w.heap.size w w')) (hf : (fx && fy) = false) :
    Calls Tryd.prog 8 #[.string s] w fun r w' => r = .returned (.tuple #[.agg #[.string ⟨#[]⟩, .int .i64 0, .int .i64 0, .string ⟨#[]⟩, .bool false], .int .i64 23]) ∧ Below w.heap.size w w' := by
  have Z := aside (heap_alloc_new w (.cells #[.string ⟨#[]⟩, .int .i64 0, .int .i64 0, .string ⟨#[]⟩, .bool false] 25))
  subst he1
  cases fx <;> cases fy
  all_goals first
    | (exact absurd hf (by decide))
    | skip
  all_goals
    go_enter Tryd.func8, Tryd.ntmps8
    go_wp2_with fail
    refine (C1.out _).mono ?_
    rintro r w1 ⟨rfl, b1⟩
    have Z1 := aside (blk_on Z.out b1)
    have b01 := bthen (bnew w _) b1
    clear b1
    go_wp2_with fail
    refine (C2.out _).mono ?_
    rintro r w2 ⟨rfl, b2⟩
    have Z2 := aside (blk_on Z1.out b2)
    have b02 := bthen b01 b2
    clear b2 b01 Z1
    go_wp2_with fail
    refine (C3.out _).mono ?_
    rintro r w3 ⟨rfl, b3⟩
    have Z3 := aside (blk_on Z2.out b3)
    have b03 := bthen b02 b3
    obtain ⟨⟨t0, t1, t2, t3, t4⟩, g0, g1, g2, g3, g4⟩ := quint Z3.out
    clear b3 b02 Z2
    have kE := aside (heap_alloc_new w3 (.cells #[.string ⟨#[]⟩, .int .i64 0, .int .i64 0, .string ⟨#[]⟩, .bool true] 25))
    have kR := aside (blk_on Z3.out (bnew w3 (.cells #[.string ⟨#[]⟩, .int .i64 0, .int .i64 0, .string ⟨#[]⟩, .bool true] 25)))
    have n2 : w.heap.size ≠ w3.heap.size := by have := (Array.getElem?_eq_some_iff.1 Z3.out).1; omega
    have n3 : w.heap.size ≤ w3.heap.size := by have := (Array.getElem?_eq_some_iff.1 Z3.out).1; omega
    have bb := aside (bthen b03 (bnew w3 (.cells #[.string ⟨#[]⟩, .int .i64 0, .int .i64 0, .string ⟨#[]⟩, .bool true] 25)))
    obtain ⟨⟨s0, s1, s2, s3, s4⟩, f0, f1, f2, f3, f4⟩ := quint kE.out
    clear Z3 b03
    go_wp2_with fail
    refine (U1.out _).mono ?_
    rintro r w4 ⟨rfl, b'⟩
    have kR' := aside (blk_on kR.out b')
    have kE' := aside (blk_on kE.out b')
    have bb' := aside (bthen bb.out b')
    clear s0 s1 s2 s3 s4 f0 f1 f2 f3 f4 t0 t1 t2 t3 t4 g0 g1 g2 g3 g4 kR kE bb b'
    have kR := kR'
    have kE := kE'
    have bb := bb'
    clear kR' kE' bb'
    obtain ⟨⟨s0, s1, s2, s3, s4⟩, f0, f1, f2, f3, f4⟩ := quint kE.out
    obtain ⟨⟨t0, t1, t2, t3, t4⟩, g0, g1, g2, g3, g4⟩ := quint kR.out
    have kR' := aside (blk_other (k := 0) kR.out n2 (.string kd))
    have kE' : Hid ((w4.setCell ⟨w3.heap.size, 0, none⟩ (.string kd)).heap[w3.heap.size]? = some (.cells #[.string kd, .int .i64 0, .int .i64 0, .string ⟨#[]⟩, .bool true] 25 (0, 0))) := heap_setCell_same w4 w3.heap.size 0 _ _ (.string kd) kE.out
    have bb' := aside (bb.out.setCell (p := ⟨w3.heap.size, 0, none⟩) n3 (.string kd))
    clear kR kE bb
    have kR := kR'
    have kE := kE'
    have bb := bb'
    clear kR' kE' bb'
    obtain ⟨⟨x0, x1, x2, x3, x4⟩, y0, y1, y2, y3, y4⟩ := quint kE.out
    obtain ⟨⟨v0, v1, v2, v3, v4⟩, -⟩ := quint kR.out
    go_wp2_with fail
    refine (N1.out _).mono ?_
    rintro r w6 ⟨rfl, b'⟩
    have kR' := aside (blk_on kR.out b')
    have kE' := aside (blk_on kE.out b')
    have bb' := aside (bthen bb.out b')
    clear x0 x1 x2 x3 x4 y0 y1 y2 y3 y4 v0 v1 v2 v3 v4 s0 s1 s2 s3 s4 f0 f1 f2 f3 f4 t0 t1 t2 t3 t4 g0 g1 g2 g3 g4 kR kE bb b'
    have kR := kR'
    have kE := kE'
    have bb := bb'
    clear kR' kE' bb'
    obtain ⟨⟨s0, s1, s2, s3, s4⟩, f0, f1, f2, f3, f4⟩ := quint kE.out
    obtain ⟨⟨t0, t1, t2, t3, t4⟩, g0, g1, g2, g3, g4⟩ := quint kR.out
    go_wp2_with fail
    refine (N2.out _).mono ?_
    rintro r w7 ⟨rfl, b'⟩
    have kR' := aside (blk_on kR.out b')
    have kE' := aside (blk_on kE.out b')
    have bb' := aside (bthen bb.out b')
    clear s0 s1 s2 s3 s4 f0 f1 f2 f3 f4 t0 t1 t2 t3 t4 g0 g1 g2 g3 g4 kR kE bb b'
    have kR := kR'
    have kE := kE'
    have bb := bb'
    clear kR' kE' bb'
    obtain ⟨⟨s0, s1, s2, s3, s4⟩, f0, f1, f2, f3, f4⟩ := quint kE.out
    obtain ⟨⟨t0, t1, t2, t3, t4⟩, g0, g1, g2, g3, g4⟩ := quint kR.out
    have bF := bb.out
    clear kR kE bb
    go_wp2
    refine bodyPost_ret (v := .tuple #[.agg #[.string ⟨#[]⟩, .int .i64 0, .int .i64 0, .string ⟨#[]⟩, .bool false], .int .i64 23]) (by simp [results, Tryd.results8, go_sem, t0, t1, t2, t3, t4]) rfl ⟨rfl, ?_⟩
    exact set5r bF (Nat.le_refl _) _ _ _ _ _

set_option maxRecDepth 100000 in
set_option maxHeartbeats 6400000 in
theorem pr_chkD (s K R V X A B : ByteArray) (kd : ByteArray) (e1 : Int) (c n : Int) (q : Int) (w : World) (C1 : Hid (∀ w, Calls Tryd.prog 16 #[.string s, .int .u8 32] w fun r w' => r = .returned (.tuple #[.string K, .string R, .bool true]) ∧ Below w.heap.size w w'))
    (C2 : Hid (∀ w, Calls Tryd.prog 16 #[.string R, .int .u8 32] w fun r w' => r = .returned (.tuple #[.string V, .string X, .bool true]) ∧ Below w.heap.size w w'))
    (C3 : Hid (∀ w, Calls Tryd.prog 16 #[.string V, .int .u8 46] w fun r w' => r = .returned (.tuple #[.string A, .string B, .bool true]) ∧ Below w.heap.size w w')) (hK1 : K.toList.isEmpty = false) (hK2 : (K.toList == []) = false) (x : UInt8) (ix : ∀ w, (Instr.index 9 (.string K) (.int .i64 0)).run Tryd.prog w = .ok (.int .u8 (x.toNat : Int)) w) (hx : ((x.toNat : Int) != 107) = false) (hX1 : X.toList.isEmpty = false) (hX2 : (X.toList == []) = false) (hX : (X.toList == [120]) = true) (hKs : (1 : Int) ≤ K.size) (U1 : Hid (∀ w, Calls Tryd.prog 17 #[.string (K.extract 1 K.size)] w fun r w' => r = .returned (.tuple #[.string kd, .int .i64 e1]) ∧ Below w.heap.size w w')) (he1 : e1 = 0) (N1 : Hid (∀ w, Calls Tryd.prog 18 #[.string A] w fun r w' => r = .returned (.tuple #[.int .i64 c, .bool true]) ∧ Below w.heap.size w w')) (N2 : Hid (∀ w, Calls Tryd.prog 18 #[.string B] w fun r w' => r = .returned (.tuple #[.int .i64 n, .bool true]) ∧ Below w.heap.size w w')) (hq : En.chk ⟨kd, c, n, ⟨#[]⟩, true⟩ = q) (hne : q ≠ 0) :
    Calls Tryd.prog 8 #[.string s] w fun r w' => r = .returned (.tuple #[.agg #[.string ⟨#[]⟩, .int .i64 0, .int .i64 0, .string ⟨#[]⟩, .bool false], .int .i64 q]) ∧ Below w.heap.size w w' := by
  have Z := aside (heap_alloc_new w (.cells #[.string ⟨#[]⟩, .int .i64 0, .int .i64 0, .string ⟨#[]⟩, .bool false] 25))
  subst he1
  have CQ := aside (fun w => checkRef_is hq w)
  clear hq
  have heq : (q != 0) = true := by simp [hne]
  clear hne
  go_enter Tryd.func8, Tryd.ntmps8
  go_wp2_with fail
  refine (C1.out _).mono ?_
  rintro r w1 ⟨rfl, b1⟩
  have Z1 := aside (blk_on Z.out b1)
  have b01 := bthen (bnew w _) b1
  clear b1
  go_wp2_with fail
  refine (C2.out _).mono ?_
  rintro r w2 ⟨rfl, b2⟩
  have Z2 := aside (blk_on Z1.out b2)
  have b02 := bthen b01 b2
  clear b2 b01 Z1
  go_wp2_with fail
  refine (C3.out _).mono ?_
  rintro r w3 ⟨rfl, b3⟩
  have Z3 := aside (blk_on Z2.out b3)
  have b03 := bthen b02 b3
  obtain ⟨⟨t0, t1, t2, t3, t4⟩, g0, g1, g2, g3, g4⟩ := quint Z3.out
  clear b3 b02 Z2
  have kE := aside (heap_alloc_new w3 (.cells #[.string ⟨#[]⟩, .int .i64 0, .int .i64 0, .string ⟨#[]⟩, .bool true] 25))
  have kR := aside (blk_on Z3.out (bnew w3 (.cells #[.string ⟨#[]⟩, .int .i64 0, .int .i64 0, .string ⟨#[]⟩, .bool true] 25)))
  have n2 : w.heap.size ≠ w3.heap.size := by have := (Array.getElem?_eq_some_iff.1 Z3.out).1; omega
  have n3 : w.heap.size ≤ w3.heap.size := by have := (Array.getElem?_eq_some_iff.1 Z3.out).1; omega
  have bb := aside (bthen b03 (bnew w3 (.cells #[.string ⟨#[]⟩, .int .i64 0, .int .i64 0, .string ⟨#[]⟩, .bool true] 25)))
  obtain ⟨⟨s0, s1, s2, s3, s4⟩, f0, f1, f2, f3, f4⟩ := quint kE.out
  clear Z3 b03
  go_wp2_with fail
  refine (U1.out _).mono ?_
  rintro r w4 ⟨rfl, b'⟩
  have kR' := aside (blk_on kR.out b')
  have kE' := aside (blk_on kE.out b')
  have bb' := aside (bthen bb.out b')
  clear s0 s1 s2 s3 s4 f0 f1 f2 f3 f4 t0 t1 t2 t3 t4 g0 g1 g2 g3 g4 kR kE bb b'
  have kR := kR'
  have kE := kE'
  have bb := bb'
  clear kR' kE' bb'
  obtain ⟨⟨s0, s1, s2, s3, s4⟩, f0, f1, f2, f3, f4⟩ := quint kE.out
  obtain ⟨⟨t0, t1, t2, t3, t4⟩, g0, g1, g2, g3, g4⟩ := quint kR.out
  have kR' := aside (blk_other (k := 0) kR.out n2 (.string kd))
  have kE' : Hid ((w4.setCell ⟨w3.heap.size, 0, none⟩ (.string kd)).heap[w3.heap.size]? = some (.cells #[.string kd, .int .i64 0, .int .i64 0, .string ⟨#[]⟩, .bool true] 25 (0, 0))) := heap_setCell_same w4 w3.heap.size 0 _ _ (.string kd) kE.out
  have bb' := aside (bb.out.setCell (p := ⟨w3.heap.size, 0, none⟩) n3 (.string kd))
  clear kR kE bb
  have kR := kR'
  have kE := kE'
  have bb := bb'
  clear kR' kE' bb'
  obtain ⟨⟨x0, x1, x2, x3, x4⟩, y0, y1, y2, y3, y4⟩ := quint kE.out
  obtain ⟨⟨v0, v1, v2, v3, v4⟩, -⟩ := quint kR.out
  go_wp2_with fail
  refine (N1.out _).mono ?_
  rintro r w6 ⟨rfl, b'⟩
  have kR' := aside (blk_on kR.out b')
  have kE' := aside (blk_on kE.out b')
  have bb' := aside (bthen bb.out b')
  clear x0 x1 x2 x3 x4 y0 y1 y2 y3 y4 v0 v1 v2 v3 v4 s0 s1 s2 s3 s4 f0 f1 f2 f3 f4 t0 t1 t2 t3 t4 g0 g1 g2 g3 g4 kR kE bb b'
  have kR := kR'
  have kE := kE'
  have bb := bb'
  clear kR' kE' bb'
  obtain ⟨⟨s0, s1, s2, s3, s4⟩, f0, f1, f2, f3, f4⟩ := quint kE.out
  obtain ⟨⟨t0, t1, t2, t3, t4⟩, g0, g1, g2, g3, g4⟩ := quint kR.out
  go_wp2_with fail
  refine (N2.out _).mono ?_
  rintro r w7 ⟨rfl, b'⟩
  have kR' := aside (blk_on kR.out b')
  have kE' := aside (blk_on kE.out b')
  have bb' := aside (bthen bb.out b')
  clear s0 s1 s2 s3 s4 f0 f1 f2 f3 f4 t0 t1 t2 t3 t4 g0 g1 g2 g3 g4 kR kE bb b'
  have kR := kR'
  have kE := kE'
  have bb := bb'
  clear kR' kE' bb'
  obtain ⟨⟨s0, s1, s2, s3, s4⟩, f0, f1, f2, f3, f4⟩ := quint kE.out
  obtain ⟨⟨t0, t1, t2, t3, t4⟩, g0, g1, g2, g3, g4⟩ := quint kR.out
  have kR' := aside (blk_other (k := 1) kR.out n2 (.int .i64 c))
  have kE' : Hid ((w7.setCell ⟨w3.heap.size, 1, none⟩ (.int .i64 c)).heap[w3.heap.size]? = some (.cells #[.string kd, .int .i64 c, .int .i64 0, .string ⟨#[]⟩, .bool true] 25 (0, 0))) := heap_setCell_same w7 w3.heap.size 1 _ _ (.int .i64 c) kE.out
  have bb' := aside (bb.out.setCell (p := ⟨w3.heap.size, 1, none⟩) n3 (.int .i64 c))
  clear kR kE bb
  have kR := kR'
  have kE := kE'
  have bb := bb'
  clear kR' kE' bb'
  have kR' := aside (blk_other (k := 2) kR.out n2 (.int .i64 n))
  have kE' : Hid (((w7.setCell ⟨w3.heap.size, 1, none⟩ (.int .i64 c)).setCell ⟨w3.heap.size, 2, none⟩ (.int .i64 n)).heap[w3.heap.size]? = some (.cells #[.string kd, .int .i64 c, .int .i64 n, .string ⟨#[]⟩, .bool true] 25 (0, 0))) := heap_setCell_same (w7.setCell ⟨w3.heap.size, 1, none⟩ (.int .i64 c)) w3.heap.size 2 _ _ (.int .i64 n) kE.out
  have bb' := aside (bb.out.setCell (p := ⟨w3.heap.size, 2, none⟩) n3 (.int .i64 n))
  clear kR kE bb
  have kR := kR'
  have kE := kE'
  have bb := bb'
  clear kR' kE' bb'
  obtain ⟨⟨x0, x1, x2, x3, x4⟩, y0, y1, y2, y3, y4⟩ := quint kE.out
  obtain ⟨⟨v0, v1, v2, v3, v4⟩, -⟩ := quint kR.out
  go_wp2_with fail
  refine (CQ.out _).mono ?_
  rintro r w8 ⟨rfl, b'⟩
  have kR' := aside (blk_on kR.out b')
  have kE' := aside (blk_on kE.out b')
  have bb' := aside (bthen bb.out b')
  clear x0 x1 x2 x3 x4 y0 y1 y2 y3 y4 v0 v1 v2 v3 v4 s0 s1 s2 s3 s4 f0 f1 f2 f3 f4 t0 t1 t2 t3 t4 g0 g1 g2 g3 g4 kR kE bb b'
  have kR := kR'
  have kE := kE'
  have bb := bb'
  clear kR' kE' bb'
  obtain ⟨⟨s0, s1, s2, s3, s4⟩, f0, f1, f2, f3, f4⟩ := quint kE.out
  obtain ⟨⟨t0, t1, t2, t3, t4⟩, g0, g1, g2, g3, g4⟩ := quint kR.out
  have bF := bb.out
  clear kR kE bb
  go_wp2
  refine bodyPost_ret (v := .tuple #[.agg #[.string ⟨#[]⟩, .int .i64 0, .int .i64 0, .string ⟨#[]⟩, .bool false], .int .i64 q]) (by simp [results, Tryd.results8, go_sem, t0, t1, t2, t3, t4]) rfl ⟨rfl, ?_⟩
  exact set5r bF (Nat.le_refl _) _ _ _ _ _

set_option maxRecDepth 100000 in
set_option maxHeartbeats 6400000 in
theorem pr_okD (s K R V X A B : ByteArray) (kd : ByteArray) (e1 : Int) (c n : Int) (w : World) (C1 : Hid (∀ w, Calls Tryd.prog 16 #[.string s, .int .u8 32] w fun r w' => r = .returned (.tuple #[.string K, .string R, .bool true]) ∧ Below w.heap.size w w'))
    (C2 : Hid (∀ w, Calls Tryd.prog 16 #[.string R, .int .u8 32] w fun r w' => r = .returned (.tuple #[.string V, .string X, .bool true]) ∧ Below w.heap.size w w'))
    (C3 : Hid (∀ w, Calls Tryd.prog 16 #[.string V, .int .u8 46] w fun r w' => r = .returned (.tuple #[.string A, .string B, .bool true]) ∧ Below w.heap.size w w')) (hK1 : K.toList.isEmpty = false) (hK2 : (K.toList == []) = false) (x : UInt8) (ix : ∀ w, (Instr.index 9 (.string K) (.int .i64 0)).run Tryd.prog w = .ok (.int .u8 (x.toNat : Int)) w) (hx : ((x.toNat : Int) != 107) = false) (hX1 : X.toList.isEmpty = false) (hX2 : (X.toList == []) = false) (hX : (X.toList == [120]) = true) (hKs : (1 : Int) ≤ K.size) (U1 : Hid (∀ w, Calls Tryd.prog 17 #[.string (K.extract 1 K.size)] w fun r w' => r = .returned (.tuple #[.string kd, .int .i64 e1]) ∧ Below w.heap.size w w')) (he1 : e1 = 0) (N1 : Hid (∀ w, Calls Tryd.prog 18 #[.string A] w fun r w' => r = .returned (.tuple #[.int .i64 c, .bool true]) ∧ Below w.heap.size w w')) (N2 : Hid (∀ w, Calls Tryd.prog 18 #[.string B] w fun r w' => r = .returned (.tuple #[.int .i64 n, .bool true]) ∧ Below w.heap.size w w')) (hq : En.chk ⟨kd, c, n, ⟨#[]⟩, true⟩ = 0) :
    Calls Tryd.prog 8 #[.string s] w fun r w' => r = .returned (.tuple #[.agg #[.string kd, .int .i64 c, .int .i64 n, .string ⟨#[]⟩, .bool true], .int .i64 0]) ∧ Below w.heap.size w w' := by
  have Z := aside (heap_alloc_new w (.cells #[.string ⟨#[]⟩, .int .i64 0, .int .i64 0, .string ⟨#[]⟩, .bool false] 25))
  subst he1
  have CQ := aside (fun w => checkRef_is hq w)
  clear hq
  go_enter Tryd.func8, Tryd.ntmps8
  go_wp2_with fail
  refine (C1.out _).mono ?_
  rintro r w1 ⟨rfl, b1⟩
  have Z1 := aside (blk_on Z.out b1)
  have b01 := bthen (bnew w _) b1
  clear b1
  go_wp2_with fail
  refine (C2.out _).mono ?_
  rintro r w2 ⟨rfl, b2⟩
  have Z2 := aside (blk_on Z1.out b2)
  have b02 := bthen b01 b2
  clear b2 b01 Z1
  go_wp2_with fail
  refine (C3.out _).mono ?_
  rintro r w3 ⟨rfl, b3⟩
  have Z3 := aside (blk_on Z2.out b3)
  have b03 := bthen b02 b3
  obtain ⟨⟨t0, t1, t2, t3, t4⟩, g0, g1, g2, g3, g4⟩ := quint Z3.out
  clear b3 b02 Z2
  have kE := aside (heap_alloc_new w3 (.cells #[.string ⟨#[]⟩, .int .i64 0, .int .i64 0, .string ⟨#[]⟩, .bool true] 25))
  have kR := aside (blk_on Z3.out (bnew w3 (.cells #[.string ⟨#[]⟩, .int .i64 0, .int .i64 0, .string ⟨#[]⟩, .bool true] 25)))
  have n2 : w.heap.size ≠ w3.heap.size := by have := (Array.getElem?_eq_some_iff.1 Z3.out).1; omega
  have n3 : w.heap.size ≤ w3.heap.size := by have := (Array.getElem?_eq_some_iff.1 Z3.out).1; omega
  have bb := aside (bthen b03 (bnew w3 (.cells #[.string ⟨#[]⟩, .int .i64 0, .int .i64 0, .string ⟨#[]⟩, .bool true] 25)))
  obtain ⟨⟨s0, s1, s2, s3, s4⟩, f0, f1, f2, f3, f4⟩ := quint kE.out
  clear Z3 b03
  go_wp2_with fail
  refine (U1.out _).mono ?_
  rintro r w4 ⟨rfl, b'⟩
  have kR' := aside (blk_on kR.out b')
  have kE' := aside (blk_on kE.out b')
  have bb' := aside (bthen bb.out b')
  clear s0 s1 s2 s3 s4 f0 f1 f2 f3 f4 t0 t1 t2 t3 t4 g0 g1 g2 g3 g4 kR kE bb b'
  have kR := kR'
  have kE := kE'
  have bb := bb'
  clear kR' kE' bb'
  obtain ⟨⟨s0, s1, s2, s3, s4⟩, f0, f1, f2, f3, f4⟩ := quint kE.out
  obtain ⟨⟨t0, t1, t2, t3, t4⟩, g0, g1, g2, g3, g4⟩ := quint kR.out
  have kR' := aside (blk_other (k := 0) kR.out n2 (.string kd))
  have kE' : Hid ((w4.setCell ⟨w3.heap.size, 0, none⟩ (.string kd)).heap[w3.heap.size]? = some (.cells #[.string kd, .int .i64 0, .int .i64 0, .string ⟨#[]⟩, .bool true] 25 (0, 0))) := heap_setCell_same w4 w3.heap.size 0 _ _ (.string kd) kE.out
  have bb' := aside (bb.out.setCell (p := ⟨w3.heap.size, 0, none⟩) n3 (.string kd))
  clear kR kE bb
  have kR := kR'
  have kE := kE'
  have bb := bb'
  clear kR' kE' bb'
  obtain ⟨⟨x0, x1, x2, x3, x4⟩, y0, y1, y2, y3, y4⟩ := quint kE.out
  obtain ⟨⟨v0, v1, v2, v3, v4⟩, -⟩ := quint kR.out
  go_wp2_with fail
  refine (N1.out _).mono ?_
  rintro r w6 ⟨rfl, b'⟩
  have kR' := aside (blk_on kR.out b')
  have kE' := aside (blk_on kE.out b')
  have bb' := aside (bthen bb.out b')
  clear x0 x1 x2 x3 x4 y0 y1 y2 y3 y4 v0 v1 v2 v3 v4 s0 s1 s2 s3 s4 f0 f1 f2 f3 f4 t0 t1 t2 t3 t4 g0 g1 g2 g3 g4 kR kE bb b'
  have kR := kR'
  have kE := kE'
  have bb := bb'
  clear kR' kE' bb'
  obtain ⟨⟨s0, s1, s2, s3, s4⟩, f0, f1, f2, f3, f4⟩ := quint kE.out
  obtain ⟨⟨t0, t1, t2, t3, t4⟩, g0, g1, g2, g3, g4⟩ := quint kR.out
  go_wp2_with fail
  refine (N2.out _).mono ?_
  rintro r w7 ⟨rfl, b'⟩
  have kR' := aside (blk_on kR.out b')
  have kE' := aside (blk_on kE.out b')
  have bb' := aside (bthen bb.out b')
  clear s0 s1 s2 s3 s4 f0 f1 f2 f3 f4 t0 t1 t2 t3 t4 g0 g1 g2 g3 g4 kR kE bb b'
  have kR := kR'
  have kE := kE'
  have bb := bb'
  clear kR' kE' bb'
  obtain ⟨⟨s0, s1, s2, s3, s4⟩, f0, f1, f2, f3, f4⟩ := quint kE.out
  obtain ⟨⟨t0, t1, t2, t3, t4⟩, g0, g1, g2, g3, g4⟩ := quint kR.out
  have kR' := aside (blk_other (k := 1) kR.out n2 (.int .i64 c))
  have kE' : Hid ((w7.setCell ⟨w3.heap.size, 1, none⟩ (.int .i64 c)).heap[w3.heap.size]? = some (.cells #[.string kd, .int .i64 c, .int .i64 0, .string ⟨#[]⟩, .bool true] 25 (0, 0))) := heap_setCell_same w7 w3.heap.size 1 _ _ (.int .i64 c) kE.out
  have bb' := aside (bb.out.setCell (p := ⟨w3.heap.size, 1, none⟩) n3 (.int .i64 c))
  clear kR kE bb
  have kR := kR'
  have kE := kE'
  have bb := bb'
  clear kR' kE' bb'
  have kR' := aside (blk_other (k := 2) kR.out n2 (.int .i64 n))
  have kE' : Hid (((w7.setCell ⟨w3.heap.size, 1, none⟩ (.int .i64 c)).setCell ⟨w3.heap.size, 2, none⟩ (.int .i64 n)).heap[w3.heap.size]? = some (.cells #[.string kd, .int .i64 c, .int .i64 n, .string ⟨#[]⟩, .bool true] 25 (0, 0))) := heap_setCell_same (w7.setCell ⟨w3.heap.size, 1, none⟩ (.int .i64 c)) w3.heap.size 2 _ _ (.int .i64 n) kE.out
  have bb' := aside (bb.out.setCell (p := ⟨w3.heap.size, 2, none⟩) n3 (.int .i64 n))
  clear kR kE bb
  have kR := kR'
  have kE := kE'
  have bb := bb'
  clear kR' kE' bb'
  obtain ⟨⟨x0, x1, x2, x3, x4⟩, y0, y1, y2, y3, y4⟩ := quint kE.out
  obtain ⟨⟨v0, v1, v2, v3, v4⟩, -⟩ := quint kR.out
  go_wp2_with fail
  refine (CQ.out _).mono ?_
  rintro r w8 ⟨rfl, b'⟩
  have kR' := aside (blk_on kR.out b')
  have kE' := aside (blk_on kE.out b')
  have bb' := aside (bthen bb.out b')
  clear x0 x1 x2 x3 x4 y0 y1 y2 y3 y4 v0 v1 v2 v3 v4 s0 s1 s2 s3 s4 f0 f1 f2 f3 f4 t0 t1 t2 t3 t4 g0 g1 g2 g3 g4 kR kE bb b'
  have kR := kR'
  have kE := kE'
  have bb := bb'
  clear kR' kE' bb'
  obtain ⟨⟨s0, s1, s2, s3, s4⟩, f0, f1, f2, f3, f4⟩ := quint kE.out
  obtain ⟨⟨t0, t1, t2, t3, t4⟩, g0, g1, g2, g3, g4⟩ := quint kR.out
  have bF := bb.out
  clear kR kE bb
  go_wp2
  refine bodyPost_ret (v := .tuple #[.agg #[.string kd, .int .i64 c, .int .i64 n, .string ⟨#[]⟩, .bool true], .int .i64 0]) (by simp [results, Tryd.results8, go_sem, t0, t1, t2, t3, t4]) rfl ⟨rfl, ?_⟩
  exact set5r bF (Nat.le_refl _) _ _ _ _ _

end Go.Proofs.YtnjbglnkhgholabDoor

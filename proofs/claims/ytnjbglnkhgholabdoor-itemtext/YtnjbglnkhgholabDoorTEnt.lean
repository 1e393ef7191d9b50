/-
  readEntry and Parse, the code's: they keep to the plain reading.
-/
import Derived.Test.YtnjbglnkhgholabDoorTRead
import Derived.Lib.Split
namespace Go.Proofs.YtnjbglnkhgholabDoor
open Go.RowKit
set_option linter.unusedVariables false

theorem split_is {s : ByteArray} {P : List ByteArray} {N : Nat} (hP : Lib.splitB ⟨#[32]⟩ 0 (min 4 (s.size + 1) - 1) s = P) (hN : min 4 (s.size + 1) = N) (hs : s.size ≤ 1073741824) (w : World) (hE : Env w) :
    Calls Tryd.prog 22 #[.string s, .string ⟨#[32]⟩, .int .i64 4] w fun e w' => e = .returned (.slice (some ⟨w.heap.size, 0, none⟩) P.length N) ∧ w' = w.alloc (.cells (Lib.cellsOf P N) 9) := by
  obtain ⟨m, hm⟩ := hE.max
  have := Tryd.strings_SplitN s ⟨#[32]⟩ 4 m w (by omega) hm (by decide) (by decide) (by decide)
  rw [hP, hN] at this
  exact this

set_option maxRecDepth 100000 in
set_option maxHeartbeats 1600000 in
theorem re_few (s : ByteArray) (P : List ByteArray) (N : Nat) (w : World) (hE : Env w) (hP : Lib.splitB ⟨#[32]⟩ 0 (min 4 (s.size + 1) - 1) s = P) (hN : min 4 (s.size + 1) = N) (hs : s.size ≤ 1073741824) (hl : P.length ≠ 3) :
    Calls Tryd.prog 15 #[.string s] w fun r w' => r = .returned (.tuple #[.agg #[.string ⟨#[]⟩, .int .i64 0, .int .i64 0, .string ⟨#[]⟩, .bool false], .bool false]) ∧ Below w.heap.size w w' := by
  have C := aside (fun w hE => split_is hP hN hs w hE)
  obtain ⟨n, hn⟩ : ∃ n, P.length = n := ⟨_, rfl⟩
  rw [hn] at C hl
  have hne : ((n : Int) != 3) = true := by simp; omega
  have HE := aside hE
  have Z := aside (heap_alloc_new w (.cells #[.string ⟨#[]⟩, .int .i64 0, .int .i64 0, .string ⟨#[]⟩, .bool false] 25))
  clear hE hP hN hs hl hn
  go_enter Tryd.func15, Tryd.ntmps15
  go_wp2_with fail
  refine (C.out _ (HE.out.below (bnew w _))).mono ?_
  rintro r w1 ⟨rfl, hw1⟩
  have b1 : Below (w.alloc (.cells #[.string ⟨#[]⟩, .int .i64 0, .int .i64 0, .string ⟨#[]⟩, .bool false] 25)).heap.size (w.alloc (.cells #[.string ⟨#[]⟩, .int .i64 0, .int .i64 0, .string ⟨#[]⟩, .bool false] 25)) w1 := by rw [hw1]; exact bnew _ _
  have kR := blk_on Z.out b1
  have b01 := bthen (bnew w _) b1
  obtain ⟨⟨t0, t1, t2, t3, t4⟩, g0, g1, g2, g3, g4⟩ := quint kR
  clear hw1 b1 kR Z
  go_wp2
  refine bodyPost_ret (v := .tuple #[.agg #[.string ⟨#[]⟩, .int .i64 0, .int .i64 0, .string ⟨#[]⟩, .bool false], .bool false]) (by simp [results, Tryd.results15, go_sem, t0, t1, t2, t3, t4]) rfl ⟨rfl, ?_⟩
  exact ((((b01.setCell (p := ⟨w.heap.size, 0, none⟩) (Nat.le_refl _) _).setCell (p := ⟨w.heap.size, 1, none⟩) (Nat.le_refl _) _).setCell (p := ⟨w.heap.size, 2, none⟩) (Nat.le_refl _) _).setCell (p := ⟨w.heap.size, 3, none⟩) (Nat.le_refl _) _).setCell (p := ⟨w.heap.size, 4, none⟩) (Nat.le_refl _) _

theorem set5w {w W : World} {i : Nat} (b : Below w.heap.size w W) (hi : w.heap.size ≤ i) (u0 u1 u2 u3 u4 : Value) :
    Below w.heap.size w (((((W.setCell ⟨i, 0, none⟩ u0).setCell ⟨i, 1, none⟩ u1).setCell ⟨i, 2, none⟩ u2).setCell ⟨i, 3, none⟩ u3).setCell ⟨i, 4, none⟩ u4) :=
  ((((b.setCell (p := ⟨i, 0, none⟩) hi _).setCell (p := ⟨i, 1, none⟩) hi _).setCell (p := ⟨i, 2, none⟩) hi _).setCell (p := ⟨i, 3, none⟩) hi _).setCell (p := ⟨i, 4, none⟩) hi _
theorem set5a {w W : World} {i : Nat} {o : Obj} (b : Below w.heap.size w W) (hi : w.heap.size ≤ i) (u0 u1 u2 u3 u4 : Value) :
    Below w.heap.size w ((((((W.setCell ⟨i, 0, none⟩ u0).setCell ⟨i, 1, none⟩ u1).setCell ⟨i, 2, none⟩ u2).setCell ⟨i, 3, none⟩ u3).setCell ⟨i, 4, none⟩ u4).alloc o) :=
  (set5w b hi u0 u1 u2 u3 u4).alloc (set5w b hi u0 u1 u2 u3 u4).size o

theorem set5_at {W : World} {i : Nat} {a b c d e : Value} {T : TypeId} (h : W.heap[i]? = some (.cells #[a, b, c, d, e] T (0, 0))) (o : Obj) (u0 u1 u2 u3 u4 : Value) :
    ((((((W.setCell ⟨i, 0, none⟩ u0).setCell ⟨i, 1, none⟩ u1).setCell ⟨i, 2, none⟩ u2).setCell ⟨i, 3, none⟩ u3).setCell ⟨i, 4, none⟩ u4).alloc o).cell? ⟨i, 0, none⟩ = some u0 ∧ ((((((W.setCell ⟨i, 0, none⟩ u0).setCell ⟨i, 1, none⟩ u1).setCell ⟨i, 2, none⟩ u2).setCell ⟨i, 3, none⟩ u3).setCell ⟨i, 4, none⟩ u4).alloc o).cell? ⟨i, 1, none⟩ = some u1 ∧
    ((((((W.setCell ⟨i, 0, none⟩ u0).setCell ⟨i, 1, none⟩ u1).setCell ⟨i, 2, none⟩ u2).setCell ⟨i, 3, none⟩ u3).setCell ⟨i, 4, none⟩ u4).alloc o).cell? ⟨i, 2, none⟩ = some u2 ∧ ((((((W.setCell ⟨i, 0, none⟩ u0).setCell ⟨i, 1, none⟩ u1).setCell ⟨i, 2, none⟩ u2).setCell ⟨i, 3, none⟩ u3).setCell ⟨i, 4, none⟩ u4).alloc o).cell? ⟨i, 3, none⟩ = some u3 ∧
    ((((((W.setCell ⟨i, 0, none⟩ u0).setCell ⟨i, 1, none⟩ u1).setCell ⟨i, 2, none⟩ u2).setCell ⟨i, 3, none⟩ u3).setCell ⟨i, 4, none⟩ u4).alloc o).cell? ⟨i, 4, none⟩ = some u4 := by
  have h0 := (heap_setCell_same W i 0 _ _ u0 h)
  have h1 := (heap_setCell_same _ i 1 _ _ u1 h0)
  have h2 := (heap_setCell_same _ i 2 _ _ u2 h1)
  have h3 := (heap_setCell_same _ i 3 _ _ u3 h2)
  have h4 : (((((W.setCell ⟨i, 0, none⟩ u0).setCell ⟨i, 1, none⟩ u1).setCell ⟨i, 2, none⟩ u2).setCell ⟨i, 3, none⟩ u3).setCell ⟨i, 4, none⟩ u4).heap[i]? = some (.cells #[u0, u1, u2, u3, u4] T (0, 0)) := (heap_setCell_same _ i 4 _ _ u4 h3)
  exact (quint (blk_on h4 (bnew _ o))).1

theorem cells3 (K V X : ByteArray) (N : Nat) : (Lib.cellsOf [K, V, X] N)[0]? = some (.string K) ∧ (Lib.cellsOf [K, V, X] N)[1]? = some (.string V) ∧ (Lib.cellsOf [K, V, X] N)[2]? = some (.string X) := by
  simp [Lib.cellsOf]

set_option maxRecDepth 100000 in
set_option maxHeartbeats 6400000 in
theorem re_dead (s K V X kd vd : ByteArray) (N : Nat) (c n : Int) (kf vf wf : Bool) (w : World) (hE : Env w) (hP : Lib.splitB ⟨#[32]⟩ 0 (min 4 (s.size + 1) - 1) s = [K, V, X]) (hN : min 4 (s.size + 1) = N) (hs : s.size ≤ 1073741824) (hN3 : 3 ≤ N)
    (hk : rbF 107 K.data.toList = (kd.data.toList, kf)) (hv : rvF V.data.toList = (c, n, vf)) (hKs : K.size ≤ 1073741824) (hVs : V.size ≤ 1073741824) (hX : (X.toList == [120]) = true) :
    Calls Tryd.prog 15 #[.string s] w fun r w' => r = .returned (.tuple #[.agg #[.string kd, .int .i64 c, .int .i64 n, .string ⟨#[]⟩, .bool true], .bool (kf && vf)]) ∧ Below w.heap.size w w' := by
  have C := aside (fun w hE => split_is hP hN hs w hE)
  have C1 := aside (fun w => rb_at hk hKs w)
  have C2 := aside (fun w hE => rv_at hv hVs w hE)
  have HE := aside hE
  have Z := aside (heap_alloc_new w (.cells #[.string ⟨#[]⟩, .int .i64 0, .int .i64 0, .string ⟨#[]⟩, .bool false] 25))
  have hN3' : (3 : Int) ≤ (N : Int) := by omega
  clear hE hP hN hs hk hv hKs hVs hN3
  cases kf <;> cases vf
  all_goals
    go_enter Tryd.func15, Tryd.ntmps15
    go_wp2_with fail
    refine (C.out _ (HE.out.below (bnew w _))).mono ?_
    rintro r w1 ⟨rfl, hw1⟩
    rw [show ([K, V, X] : List ByteArray).length = 3 from rfl]
    have b1 : Below (w.alloc (.cells #[.string ⟨#[]⟩, .int .i64 0, .int .i64 0, .string ⟨#[]⟩, .bool false] 25)).heap.size (w.alloc (.cells #[.string ⟨#[]⟩, .int .i64 0, .int .i64 0, .string ⟨#[]⟩, .bool false] 25)) w1 := by rw [hw1]; exact bnew _ _
    have kR := aside (blk_on Z.out b1)
    have kP : Hid (w1.heap[w.heap.size + 1]? = some (.cells (Lib.cellsOf [K, V, X] N) 9 (0, 0))) := by
      show w1.heap[w.heap.size + 1]? = _
      rw [hw1]
      have := heap_alloc_new (w.alloc (.cells #[.string ⟨#[]⟩, .int .i64 0, .int .i64 0, .string ⟨#[]⟩, .bool false] 25)) (.cells (Lib.cellsOf [K, V, X] N) 9)
      rw [World.size_alloc] at this
      exact this
    have b01 := bthen (bnew w _) b1
    rw [World.size_alloc]
    have p0 : w1.cell? ⟨w.heap.size + 1, 0, none⟩ = some (.string K) := by rw [cell_of_row _ _ 0 _ _ _ kP.out]; exact (cells3 _ _ _ _).1
    clear hw1 b1
    go_wp2_with fail
    refine (C1.out _).mono ?_
    rintro r w2 ⟨rfl, b2⟩
    have kR2 := aside (blk_on kR.out b2)
    have kP2 := aside (blk_on kP.out b2)
    have b02 := bthen b01 b2
    have p1 : w2.cell? ⟨w.heap.size + 1, 1, none⟩ = some (.string V) := by rw [cell_of_row _ _ 1 _ _ _ kP2.out]; exact (cells3 _ _ _ _).2.1
    clear p0 b2 b01 kR kP
    go_wp2_with fail
    refine (C2.out _ (HE.out.below b02)).mono ?_
    rintro r w3 ⟨rfl, b3⟩
    have bV := bthen b3 (bnew w3 (.cells #[.int .i64 c, .int .i64 n] 23))
    have bE := bthen bV (bnew _ (.cells #[.string kd, .int .i64 c, .int .i64 n, .string ⟨#[]⟩, .bool false] 25))
    have kR3 := aside (blk_on kR2.out bE)
    have kP3 := blk_on kP2.out bE
    have kP3' := blk_on kP2.out bV
    have b03 := bthen b02 bE
    have v3 := heap_alloc_new w3 (.cells #[.int .i64 c, .int .i64 n] 23)
    have y0 : (w3.alloc (.cells #[.int .i64 c, .int .i64 n] 23)).cell? ⟨w3.heap.size, 0, none⟩ = some (.int .i64 c) := by rw [cell_of_row _ _ 0 _ _ _ v3]; rfl
    have y1 : (w3.alloc (.cells #[.int .i64 c, .int .i64 n] 23)).cell? ⟨w3.heap.size, 1, none⟩ = some (.int .i64 n) := by rw [cell_of_row _ _ 1 _ _ _ v3]; rfl
    have e3 := heap_alloc_new (w3.alloc (.cells #[.int .i64 c, .int .i64 n] 23)) (.cells #[.string kd, .int .i64 c, .int .i64 n, .string ⟨#[]⟩, .bool false] 25)
    rw [World.size_alloc] at e3
    have p2 : ((w3.alloc (.cells #[.int .i64 c, .int .i64 n] 23)).alloc (.cells #[.string kd, .int .i64 c, .int .i64 n, .string ⟨#[]⟩, .bool false] 25)).cell? ⟨w.heap.size + 1, 2, none⟩ = some (.string X) := by rw [cell_of_row _ _ 2 _ _ _ kP3]; exact (cells3 _ _ _ _).2.2
    obtain ⟨⟨s0, s1, s2, s3, s4⟩, f0, f1, f2, f3, f4⟩ := quint e3
    obtain ⟨⟨t0, t1, t2, t3, t4⟩, g0, g1, g2, g3, g4⟩ := quint kR3.out
    have n1 : w.heap.size < w3.heap.size + 1 := by
      have := (Array.getElem?_eq_some_iff.1 (blk_on kR2.out b3)).1
      omega
    have n2 : w.heap.size ≠ w3.heap.size + 1 := by omega
    have KE := aside e3
    have bV0 := bthen b02 bV
    obtain ⟨z0, z1, z2, z3, z4⟩ := set5_at (blk_on kR2.out bV) (.cells #[.string kd, .int .i64 c, .int .i64 n, .string ⟨#[]⟩, .bool true] 25) (.string kd) (.int .i64 c) (.int .i64 n) (.string ⟨#[]⟩) (.bool true)
    obtain ⟨⟨q0, q1, q2, q3, q4⟩, j0, j1, j2, j3, j4⟩ := quint (blk_on kR2.out b3)
    obtain ⟨⟨u0, u1, u2, u3, u4⟩, l0, l1, l2, l3, l4⟩ := quint (blk_on kR2.out bV)
    clear b3 bV bE kP3 kP3' v3 e3 p1 b02 kR2 kP2
    go_wp2
    refine bodyPost_ret (v := .tuple #[.agg #[.string kd, .int .i64 c, .int .i64 n, .string ⟨#[]⟩, .bool true], .bool _]) (by simp [results, Tryd.results15, go_sem, z0, z1, z2, z3, z4]) rfl ⟨rfl, ?_⟩
    exact set5a bV0 (Nat.le_refl _) _ _ _ _ _

set_option maxRecDepth 100000 in
set_option maxHeartbeats 6400000 in
theorem re_live (s K V X kd vd : ByteArray) (N : Nat) (c n : Int) (kf vf wf : Bool) (w : World) (hE : Env w) (hP : Lib.splitB ⟨#[32]⟩ 0 (min 4 (s.size + 1) - 1) s = [K, V, X]) (hN : min 4 (s.size + 1) = N) (hs : s.size ≤ 1073741824) (hN3 : 3 ≤ N)
    (hk : rbF 107 K.data.toList = (kd.data.toList, kf)) (hv : rvF V.data.toList = (c, n, vf)) (hKs : K.size ≤ 1073741824) (hVs : V.size ≤ 1073741824) (hX : (X.toList == [120]) = false) (hw : rbF 61 X.data.toList = (vd.data.toList, wf)) (hXs : X.size ≤ 1073741824) :
    Calls Tryd.prog 15 #[.string s] w fun r w' => r = .returned (.tuple #[.agg #[.string kd, .int .i64 c, .int .i64 n, .string vd, .bool false], .bool (kf && vf && wf)]) ∧ Below w.heap.size w w' := by
  have C := aside (fun w hE => split_is hP hN hs w hE)
  have C1 := aside (fun w => rb_at hk hKs w)
  have C2 := aside (fun w hE => rv_at hv hVs w hE)
  have C3 := aside (fun w => rb_at hw hXs w)
  have HE := aside hE
  have Z := aside (heap_alloc_new w (.cells #[.string ⟨#[]⟩, .int .i64 0, .int .i64 0, .string ⟨#[]⟩, .bool false] 25))
  have hN3' : (3 : Int) ≤ (N : Int) := by omega
  clear hE hP hN hs hk hv hKs hVs hN3 hw hXs
  cases kf <;> cases vf <;> cases wf
  all_goals
    go_enter Tryd.func15, Tryd.ntmps15
    go_wp2_with fail
    refine (C.out _ (HE.out.below (bnew w _))).mono ?_
    rintro r w1 ⟨rfl, hw1⟩
    rw [show ([K, V, X] : List ByteArray).length = 3 from rfl]
    have b1 : Below (w.alloc (.cells #[.string ⟨#[]⟩, .int .i64 0, .int .i64 0, .string ⟨#[]⟩, .bool false] 25)).heap.size (w.alloc (.cells #[.string ⟨#[]⟩, .int .i64 0, .int .i64 0, .string ⟨#[]⟩, .bool false] 25)) w1 := by rw [hw1]; exact bnew _ _
    have kR := aside (blk_on Z.out b1)
    have kP : Hid (w1.heap[w.heap.size + 1]? = some (.cells (Lib.cellsOf [K, V, X] N) 9 (0, 0))) := by
      show w1.heap[w.heap.size + 1]? = _
      rw [hw1]
      have := heap_alloc_new (w.alloc (.cells #[.string ⟨#[]⟩, .int .i64 0, .int .i64 0, .string ⟨#[]⟩, .bool false] 25)) (.cells (Lib.cellsOf [K, V, X] N) 9)
      rw [World.size_alloc] at this
      exact this
    have b01 := bthen (bnew w _) b1
    rw [World.size_alloc]
    have p0 : w1.cell? ⟨w.heap.size + 1, 0, none⟩ = some (.string K) := by rw [cell_of_row _ _ 0 _ _ _ kP.out]; exact (cells3 _ _ _ _).1
    clear hw1 b1
    go_wp2_with fail
    refine (C1.out _).mono ?_
    rintro r w2 ⟨rfl, b2⟩
    have kR2 := aside (blk_on kR.out b2)
    have kP2 := aside (blk_on kP.out b2)
    have b02 := bthen b01 b2
    have p1 : w2.cell? ⟨w.heap.size + 1, 1, none⟩ = some (.string V) := by rw [cell_of_row _ _ 1 _ _ _ kP2.out]; exact (cells3 _ _ _ _).2.1
    clear p0 b2 b01 kR kP
    go_wp2_with fail
    refine (C2.out _ (HE.out.below b02)).mono ?_
    rintro r w3 ⟨rfl, b3⟩
    have bV := bthen b3 (bnew w3 (.cells #[.int .i64 c, .int .i64 n] 23))
    have bE := bthen bV (bnew _ (.cells #[.string kd, .int .i64 c, .int .i64 n, .string ⟨#[]⟩, .bool false] 25))
    have kR3 := aside (blk_on kR2.out bE)
    have kP3 := blk_on kP2.out bE
    have kP3' := blk_on kP2.out bV
    have b03 := bthen b02 bE
    have v3 := heap_alloc_new w3 (.cells #[.int .i64 c, .int .i64 n] 23)
    have y0 : (w3.alloc (.cells #[.int .i64 c, .int .i64 n] 23)).cell? ⟨w3.heap.size, 0, none⟩ = some (.int .i64 c) := by rw [cell_of_row _ _ 0 _ _ _ v3]; rfl
    have y1 : (w3.alloc (.cells #[.int .i64 c, .int .i64 n] 23)).cell? ⟨w3.heap.size, 1, none⟩ = some (.int .i64 n) := by rw [cell_of_row _ _ 1 _ _ _ v3]; rfl
    have e3 := heap_alloc_new (w3.alloc (.cells #[.int .i64 c, .int .i64 n] 23)) (.cells #[.string kd, .int .i64 c, .int .i64 n, .string ⟨#[]⟩, .bool false] 25)
    rw [World.size_alloc] at e3
    have p2 : ((w3.alloc (.cells #[.int .i64 c, .int .i64 n] 23)).alloc (.cells #[.string kd, .int .i64 c, .int .i64 n, .string ⟨#[]⟩, .bool false] 25)).cell? ⟨w.heap.size + 1, 2, none⟩ = some (.string X) := by rw [cell_of_row _ _ 2 _ _ _ kP3]; exact (cells3 _ _ _ _).2.2
    obtain ⟨⟨s0, s1, s2, s3, s4⟩, f0, f1, f2, f3, f4⟩ := quint e3
    obtain ⟨⟨t0, t1, t2, t3, t4⟩, g0, g1, g2, g3, g4⟩ := quint kR3.out
    have n1 : w.heap.size < w3.heap.size + 1 := by
      have := (Array.getElem?_eq_some_iff.1 (blk_on kR2.out b3)).1
      omega
    have n2 : w.heap.size ≠ w3.heap.size + 1 := by omega
    have KE := aside e3
    have bV0 := bthen b02 bV
    skip
    skip
    skip
    clear b3 bV bE kP3 kP3' v3 e3 p1 b02 kR2 kP2
    go_wp2_with fail
    refine (C3.out _).mono ?_
    rintro r w4 ⟨rfl, b4⟩
    have kR4 := blk_on kR3.out b4
    have kE4 := blk_on KE.out b4
    have b04 := bthen b03 b4
    clear s0 s1 s2 s3 s4 f0 f1 f2 f3 f4 t0 t1 t2 t3 t4 g0 g1 g2 g3 g4 y0 y1 p2
    obtain ⟨⟨s0, s1, s2, s3, s4⟩, f0, f1, f2, f3, f4⟩ := quint kE4
    obtain ⟨⟨t0, t1, t2, t3, t4⟩, g0, g1, g2, g3, g4⟩ := quint kR4
    clear b4 b03 kR3 KE kR4 kE4
    go_wp2
    refine bodyPost_ret (v := .tuple #[.agg #[.string kd, .int .i64 c, .int .i64 n, .string vd, .bool false], .bool _]) (by simp [results, Tryd.results15, go_sem, t0, t1, t2, t3, t4]) rfl ⟨rfl, ?_⟩
    exact (((((b04.setCell (p := ⟨w3.heap.size + 1, 3, none⟩) (by simp; omega) _).setCell (p := ⟨w.heap.size, 0, none⟩) (Nat.le_refl _) _).setCell (p := ⟨w.heap.size, 1, none⟩) (Nat.le_refl _) _).setCell (p := ⟨w.heap.size, 2, none⟩) (Nat.le_refl _) _).setCell (p := ⟨w.heap.size, 3, none⟩) (Nat.le_refl _) _).setCell (p := ⟨w.heap.size, 4, none⟩) (Nat.le_refl _) _

set_option maxRecDepth 100000 in
set_option maxHeartbeats 3200000 in
theorem iparse_none (s k : ByteArray) (c n : Int) (v : ByteArray) (d : Bool) (w : World) (hE : Env w) (C : Hid (∀ w, Env w → Calls Tryd.prog 15 #[.string s] w fun r w' => r = .returned (.tuple #[.agg #[.string k, .int .i64 c, .int .i64 n, .string v, .bool d], .bool false]) ∧ Below w.heap.size w w')) :
    Calls Tryd.prog 7 #[.string s] w fun r w' => r = .returned (.tuple #[.agg #[.string ⟨#[]⟩, .int .i64 0, .int .i64 0, .string ⟨#[]⟩, .bool false], .int .i64 23]) ∧ Below w.heap.size w w' := by
  have HE := aside hE
  have Z := aside (heap_alloc_new w (.cells #[.string ⟨#[]⟩, .int .i64 0, .int .i64 0, .string ⟨#[]⟩, .bool false] 25))
  clear hE
  go_enter Tryd.func7, Tryd.ntmps7
  go_wp2_with fail
  refine (C.out _ (HE.out.below (bnew w _))).mono ?_
  rintro r w1 ⟨rfl, b1⟩
  have bN := bthen b1 (bnew w1 (.cells #[.string k, .int .i64 c, .int .i64 n, .string v, .bool d] 25))
  have kR := aside (blk_on Z.out bN)
  have e1 := aside (heap_alloc_new w1 (.cells #[.string k, .int .i64 c, .int .i64 n, .string v, .bool d] 25))
  have b01 := bthen (bnew w _) bN
  have n1 : w.heap.size < w1.heap.size := by
    have := (Array.getElem?_eq_some_iff.1 (blk_on Z.out b1)).1
    omega
  have n2 : w.heap.size ≠ w1.heap.size := by omega
  obtain ⟨⟨t0, t1, t2, t3, t4⟩, g0, g1, g2, g3, g4⟩ := quint kR.out
  obtain ⟨⟨s0, s1, s2, s3, s4⟩, -⟩ := quint e1.out
  obtain ⟨⟨q0, q1, q2, q3, q4⟩, j0, j1, j2, j3, j4⟩ := quint (blk_on Z.out b1)
  have bW1 := bthen (bnew w _) b1
  obtain ⟨z0, z1, z2, z3, z4⟩ := set5_at (blk_on Z.out b1) (.cells #[.string k, .int .i64 c, .int .i64 n, .string v, .bool d] 25) (.string ⟨#[]⟩) (.int .i64 0) (.int .i64 0) (.string ⟨#[]⟩) (.bool false)
  clear b1 bN Z
  go_wp2
  refine bodyPost_ret (v := .tuple #[.agg #[.string ⟨#[]⟩, .int .i64 0, .int .i64 0, .string ⟨#[]⟩, .bool false], .int .i64 23]) (by simp [results, Tryd.results7, go_sem, z0, z1, z2, z3, z4]) rfl ⟨rfl, ?_⟩
  exact set5a bW1 (Nat.le_refl _) _ _ _ _ _

set_option maxRecDepth 100000 in
set_option maxHeartbeats 3200000 in
theorem iparse_bad (s k : ByteArray) (c n : Int) (v : ByteArray) (d : Bool) (q : Int) (hq : En.chk ⟨k, c, n, v, d⟩ = q) (hne : q ≠ 0) (w : World) (hE : Env w) (C : Hid (∀ w, Env w → Calls Tryd.prog 15 #[.string s] w fun r w' => r = .returned (.tuple #[.agg #[.string k, .int .i64 c, .int .i64 n, .string v, .bool d], .bool true]) ∧ Below w.heap.size w w')) :
    Calls Tryd.prog 7 #[.string s] w fun r w' => r = .returned (.tuple #[.agg #[.string ⟨#[]⟩, .int .i64 0, .int .i64 0, .string ⟨#[]⟩, .bool false], .int .i64 q]) ∧ Below w.heap.size w w' := by
  have CQ := aside (fun w => check_is hq w)
  clear hq
  have he : (q != 0) = true := by simp [hne]
  clear hne
  have HE := aside hE
  have Z := aside (heap_alloc_new w (.cells #[.string ⟨#[]⟩, .int .i64 0, .int .i64 0, .string ⟨#[]⟩, .bool false] 25))
  clear hE
  go_enter Tryd.func7, Tryd.ntmps7
  go_wp2_with fail
  refine (C.out _ (HE.out.below (bnew w _))).mono ?_
  rintro r w1 ⟨rfl, b1⟩
  have bN := bthen b1 (bnew w1 (.cells #[.string k, .int .i64 c, .int .i64 n, .string v, .bool d] 25))
  have kR := aside (blk_on Z.out bN)
  have e1 := aside (heap_alloc_new w1 (.cells #[.string k, .int .i64 c, .int .i64 n, .string v, .bool d] 25))
  have b01 := bthen (bnew w _) bN
  have n1 : w.heap.size < w1.heap.size := by
    have := (Array.getElem?_eq_some_iff.1 (blk_on Z.out b1)).1
    omega
  have n2 : w.heap.size ≠ w1.heap.size := by omega
  obtain ⟨⟨t0, t1, t2, t3, t4⟩, g0, g1, g2, g3, g4⟩ := quint kR.out
  obtain ⟨⟨s0, s1, s2, s3, s4⟩, -⟩ := quint e1.out
  skip
  have bW1 := bthen (bnew w _) b1
  skip
  clear b1 bN Z
  go_wp2_with fail
  refine (CQ.out _).mono ?_
  rintro r w2 ⟨rfl, b2⟩
  have b02 := bthen b01 b2
  have kR2 := blk_on kR.out b2
  have e2 := blk_on e1.out b2
  clear t0 t1 t2 t3 t4 g0 g1 g2 g3 g4 s0 s1 s2 s3 s4 kR e1 b01 b2
  obtain ⟨⟨t0, t1, t2, t3, t4⟩, g0, g1, g2, g3, g4⟩ := quint kR2
  obtain ⟨⟨s0, s1, s2, s3, s4⟩, -⟩ := quint e2
  clear kR2 e2
  go_wp2
  refine bodyPost_ret (v := .tuple #[.agg #[.string ⟨#[]⟩, .int .i64 0, .int .i64 0, .string ⟨#[]⟩, .bool false], .int .i64 q]) (by simp [results, Tryd.results7, go_sem, t0, t1, t2, t3, t4]) rfl ⟨rfl, ?_⟩
  exact set5w b02 (Nat.le_refl _) _ _ _ _ _

set_option maxRecDepth 100000 in
set_option maxHeartbeats 3200000 in
theorem iparse_ok (s k : ByteArray) (c n : Int) (v : ByteArray) (d : Bool) (hq : En.chk ⟨k, c, n, v, d⟩ = 0) (w : World) (hE : Env w) (C : Hid (∀ w, Env w → Calls Tryd.prog 15 #[.string s] w fun r w' => r = .returned (.tuple #[.agg #[.string k, .int .i64 c, .int .i64 n, .string v, .bool d], .bool true]) ∧ Below w.heap.size w w')) :
    Calls Tryd.prog 7 #[.string s] w fun r w' => r = .returned (.tuple #[.agg #[.string k, .int .i64 c, .int .i64 n, .string v, .bool d], .int .i64 0]) ∧ Below w.heap.size w w' := by
  have CQ := aside (fun w => check_is hq w)
  clear hq
  have HE := aside hE
  have Z := aside (heap_alloc_new w (.cells #[.string ⟨#[]⟩, .int .i64 0, .int .i64 0, .string ⟨#[]⟩, .bool false] 25))
  clear hE
  go_enter Tryd.func7, Tryd.ntmps7
  go_wp2_with fail
  refine (C.out _ (HE.out.below (bnew w _))).mono ?_
  rintro r w1 ⟨rfl, b1⟩
  have bN := bthen b1 (bnew w1 (.cells #[.string k, .int .i64 c, .int .i64 n, .string v, .bool d] 25))
  have kR := aside (blk_on Z.out bN)
  have e1 := aside (heap_alloc_new w1 (.cells #[.string k, .int .i64 c, .int .i64 n, .string v, .bool d] 25))
  have b01 := bthen (bnew w _) bN
  have n1 : w.heap.size < w1.heap.size := by
    have := (Array.getElem?_eq_some_iff.1 (blk_on Z.out b1)).1
    omega
  have n2 : w.heap.size ≠ w1.heap.size := by omega
  obtain ⟨⟨t0, t1, t2, t3, t4⟩, g0, g1, g2, g3, g4⟩ := quint kR.out
  obtain ⟨⟨s0, s1, s2, s3, s4⟩, -⟩ := quint e1.out
  skip
  have bW1 := bthen (bnew w _) b1
  skip
  clear b1 bN Z
  go_wp2_with fail
  refine (CQ.out _).mono ?_
  rintro r w2 ⟨rfl, b2⟩
  have b02 := bthen b01 b2
  have kR2 := blk_on kR.out b2
  have e2 := blk_on e1.out b2
  clear t0 t1 t2 t3 t4 g0 g1 g2 g3 g4 s0 s1 s2 s3 s4 kR e1 b01 b2
  obtain ⟨⟨t0, t1, t2, t3, t4⟩, g0, g1, g2, g3, g4⟩ := quint kR2
  obtain ⟨⟨s0, s1, s2, s3, s4⟩, -⟩ := quint e2
  clear kR2 e2
  go_wp2
  refine bodyPost_ret (v := .tuple #[.agg #[.string k, .int .i64 c, .int .i64 n, .string v, .bool d], .int .i64 0]) (by simp [results, Tryd.results7, go_sem, t0, t1, t2, t3, t4]) rfl ⟨rfl, ?_⟩
  exact set5w b02 (Nat.le_refl _) _ _ _ _ _

end Go.Proofs.YtnjbglnkhgholabDoor

/-
  Of and All of tallies, of the code and of the document.
-/
import Derived.Test.YtccfhegckdmanaaDoorTaJoin
import Derived.Test.YtccfhegckdmanaaDoorMAll
import Derived.Deep.RegionWith
namespace Go.Proofs.YtccfhegckdmanaaDoor
open Go.RowKit
set_option linter.unusedVariables false

set_option maxHeartbeats 1600000 in
set_option maxRecDepth 100000 in
theorem tof_any (k : ByteArray) (c n : Int) (v : ByteArray) (d : Bool) (w : World) (L : Lanes w) (hk : k.size ≤ 140737488351232) :
    Calls Tryd.prog 6 #[.agg #[.string k, .int .i64 c, .int .i64 n, .string v, .bool d]] w fun e w' => e = .returned (.agg #[.int .i64 1, .int .u64 (of0 k c n), .int .u64 (of1 k c n)]) ∧ Below w.heap.size w w' := by
  have LL := aside L
  clear L
  have B0 := aside (bthen (bnew w (.cells #[.string k, .int .i64 c, .int .i64 n, .string v, .bool d] 32)) (bnew _ (.cells #[.int .i64 0, .int .u64 0, .int .u64 0] 28)))
  have G := aside (heap_alloc_new (w.alloc (.cells #[.string k, .int .i64 c, .int .i64 n, .string v, .bool d] 32)) (.cells #[.int .i64 0, .int .u64 0, .int .u64 0] 28))
  have hz : (w.alloc (.cells #[.string k, .int .i64 c, .int .i64 n, .string v, .bool d] 32)).heap.size = w.heap.size + 1 := by simp
  rw [hz] at G
  obtain ⟨x, hx⟩ : ∃ x, of0 k c n = x := ⟨_, rfl⟩
  obtain ⟨y, hy⟩ : ∃ y, of1 k c n = y := ⟨_, rfl⟩
  have CO : Hid (∀ W, Below w.heap.size w W → Calls Tryd.prog 8 #[.string k, .agg #[.int .i64 c, .int .i64 n]] W fun e w' => e = .returned (.agg #[.int .u64 x, .int .u64 y]) ∧ Below W.heap.size W w') := fun W bw => by
    rw [← hx, ← hy]
    exact of_any k c n W (LL.out.keep bw) (by omega)
  rw [hx, hy]
  clear hz hx hy
  go_enter Tryd.func6, Tryd.ntmps6
  go_wp2_with fail
  generalize (w.alloc (.cells #[.string k, .int .i64 c, .int .i64 n, .string v, .bool d] 32)).alloc (.cells #[.int .i64 0, .int .u64 0, .int .u64 0] 28) = V at *
  refine (CO.out _ B0.out).mono ?_
  rintro e w1 ⟨rfl, b1⟩
  have B1 := aside (bthen B0.out b1)
  obtain ⟨s0, s1, s2, z0, z1, z2⟩ := tri (blk_on G.out b1)
  clear b1 G B0
  go_wp2
  exact bodyPost_ret (v := .agg #[.int .i64 1, .int .u64 x, .int .u64 y]) (by simp [results, Tryd.results6, go_sem, s0, s1, s2]) rfl ⟨rfl, ((B1.out.setCell (by simp) _).setCell (by simp) _).setCell (by simp) _⟩

set_option maxHeartbeats 1600000 in
set_option maxRecDepth 100000 in
theorem tofRef_any (k : ByteArray) (c n : Int) (v : ByteArray) (d : Bool) (w : World) (hk : k.size ≤ 140737488351232) :
    Calls Tryd.prog 7 #[.agg #[.string k, .int .i64 c, .int .i64 n, .string v, .bool d]] w fun e w' => e = .returned (.agg #[.int .i64 1, .int .u64 (of0 k c n), .int .u64 (of1 k c n)]) ∧ Below w.heap.size w w' := by
  have B0 := aside (bthen (bnew w (.cells #[.string k, .int .i64 c, .int .i64 n, .string v, .bool d] 32)) (bnew _ (.cells #[.int .i64 0, .int .u64 0, .int .u64 0] 28)))
  have G := aside (heap_alloc_new (w.alloc (.cells #[.string k, .int .i64 c, .int .i64 n, .string v, .bool d] 32)) (.cells #[.int .i64 0, .int .u64 0, .int .u64 0] 28))
  have hz : (w.alloc (.cells #[.string k, .int .i64 c, .int .i64 n, .string v, .bool d] 32)).heap.size = w.heap.size + 1 := by simp
  rw [hz] at G
  obtain ⟨x, hx⟩ : ∃ x, of0 k c n = x := ⟨_, rfl⟩
  obtain ⟨y, hy⟩ : ∃ y, of1 k c n = y := ⟨_, rfl⟩
  have CO : Hid (∀ W, Below w.heap.size w W → Calls Tryd.prog 13 #[.string k, .agg #[.int .i64 c, .int .i64 n]] W fun e w' => e = .returned (.agg #[.int .u64 x, .int .u64 y]) ∧ Below W.heap.size W w') := fun W bw => by
    rw [← hx, ← hy]
    exact ofRef_any k c n W hk
  rw [hx, hy]
  clear hz hx hy
  go_enter Tryd.func7, Tryd.ntmps7
  go_wp2_with fail
  generalize (w.alloc (.cells #[.string k, .int .i64 c, .int .i64 n, .string v, .bool d] 32)).alloc (.cells #[.int .i64 0, .int .u64 0, .int .u64 0] 28) = V at *
  refine (CO.out _ B0.out).mono ?_
  rintro e w1 ⟨rfl, b1⟩
  have B1 := aside (bthen B0.out b1)
  obtain ⟨s0, s1, s2, z0, z1, z2⟩ := tri (blk_on G.out b1)
  clear b1 G B0
  go_wp2
  exact bodyPost_ret (v := .agg #[.int .i64 1, .int .u64 x, .int .u64 y]) (by simp [results, Tryd.results7, go_sem, s0, s1, s2]) rfl ⟨rfl, ((B1.out.setCell (by simp) _).setCell (by simp) _).setCell (by simp) _⟩

/-- What a list of entries comes to. -/
def talT (T : Nat → En) (n : Nat) : Value := .agg #[.int .i64 (n : Int), .int .u64 (allI f0 (firstE T n)), .int .u64 (allI f1 (firstE T n))]

/-- What is kept of the memory in All's loop. -/
structure TAll (w wr : World) (xn x0 x1 : Int) : Prop where
  below : Below w.heap.size w wr
  sz : w.heap.size + 2 ≤ wr.heap.size
  r : wr.heap[w.heap.size]? = some (.cells #[.int .i64 0, .int .u64 0, .int .u64 0] 28)
  s : wr.heap[w.heap.size + 1]? = some (.cells #[.int .i64 xn, .int .u64 x0, .int .u64 x1] 28)

theorem TAll.keep {w wr w2 : World} {xn x0 x1 : Int} (h : TAll w wr xn x0 x1) (b : Below wr.heap.size wr w2) : TAll w w2 xn x0 x1 :=
  ⟨h.below.trans (b.mono h.below.size), by have := b.size; have := h.sz; omega, blk_on h.r b, blk_on h.s b⟩

theorem TAll.drew {w wr : World} {xn x0 x1 : Int} (h : TAll w wr xn x0 x1) : TAll w wr.drew xn x0 x1 := ⟨h.below.drew, h.sz, h.r, h.s⟩

theorem TAll.set {w wr : World} {xn x0 x1 : Int} (h : TAll w wr xn x0 x1) (yn y0 y1 : Int) : TAll w (((wr.setCell ⟨w.heap.size + 1, 0, none⟩ (.int .i64 yn)).setCell ⟨w.heap.size + 1, 1, none⟩ (.int .u64 y0)).setCell ⟨w.heap.size + 1, 2, none⟩ (.int .u64 y1)) yn y0 y1 := by
  have s1 := heap_setCell_same wr (w.heap.size + 1) 0 _ _ (.int .i64 yn) h.s
  have s2 := heap_setCell_same _ (w.heap.size + 1) 1 _ _ (.int .u64 y0) s1
  have s3 := heap_setCell_same _ (w.heap.size + 1) 2 _ _ (.int .u64 y1) s2
  refine ⟨((h.below.setCell (by simp) _).setCell (by simp) _).setCell (by simp) _, by simpa using h.sz, ?_, s3⟩
  rw [heap_setCell_other _ _ _ _ (by simp), heap_setCell_other _ _ _ _ (by simp), heap_setCell_other _ _ _ _ (by simp)]; exact h.r

theorem tall_start (w : World) : TAll w ((w.alloc (.cells #[.int .i64 0, .int .u64 0, .int .u64 0] 28)).alloc (.cells #[.int .i64 0, .int .u64 0, .int .u64 0] 28)) 0 0 0 := by
  refine ⟨(bnew w _).alloc (by simp) _, by simp, blk_on (heap_alloc_new w _) (bnew _ _), ?_⟩
  have := heap_alloc_new (w.alloc (.cells #[.int .i64 0, .int .u64 0, .int .u64 0] 28)) (.cells #[.int .i64 0, .int .u64 0, .int .u64 0] 28)
  simpa using this

set_option maxHeartbeats 3200000 in
set_option maxRecDepth 100000 in
theorem tall_any (a : Option Addr) (len cap : Nat) (T : Nat → En) (w : World) (L : Lanes w) (h : EntsIn w a len cap T) :
    Calls Tryd.prog 10 #[.slice a len cap] w fun e w' => e = .returned (talT T len) ∧ Below w.heap.size w w' := by
  have LL := aside L
  clear L
  have HE := aside h
  obtain ⟨hlc, hcm, -⟩ := h
  have hmx : (len : Int) ≤ 9223372036854775807 := by unfold maxLen at hcm; omega
  clear hlc hcm
  go_enter Tryd.func10, Tryd.ntmps10
  go_wp2
  go_loopw [8] (fun i wr => ∃ j : Nat, i = .int .i64 (j : Int) ∧ j ≤ len ∧ TAll w wr (j : Int) (allI f0 (firstE T j)) (allI f1 (firstE T j))) (fun i _ => len - (intOf i).toNat)
  case atStart =>
    refine ⟨0, rfl, Nat.zero_le _, ?_⟩
    rw [show firstE T 0 = [] from rfl, allI_nil, allI_nil]
    exact tall_start w
  case round =>
    obtain ⟨j, rfl, hj, S⟩ := hrel
    have HS := aside S
    by_cases hlt : (j : Int) < (len : Int)
    · have hE := HE.out.keep S.below
      rcases hE.2.2 with h0 | ⟨b, off, rfl, hb, hc⟩
      · omega
      · obtain ⟨⟨c0, c1, c2, c3, c4⟩, hkk⟩ := hc j (by omega)
        have e0 := allI_snoc f0 (firstE T j) (T j)
        have e1 := allI_snoc f1 (firstE T j) (T j)
        rw [← firstE_succ, f0] at e0
        rw [← firstE_succ, f1] at e1
        have E0 := aside e0
        have E1 := aside e1
        have hsz := S.sz
        obtain ⟨-, -, -, s1⟩ := S
        obtain ⟨p0, p1, p2, p3, p4, p5⟩ := tri s1
        generalize T j = t at *
        generalize allI f0 (firstE T j) = x0 at *
        generalize allI f1 (firstE T j) = x1 at *
        have hj0 : (0 : Int) ≤ (j : Int) := by omega
        have hjw : IntKind.i64.wrap ((j : Int) + 1) = (j : Int) + 1 := by rw [IntKind.wrap_i64]; omega
        obtain ⟨o0, ho0⟩ : ∃ o, of0 t.k t.c t.n = o := ⟨_, rfl⟩
        obtain ⟨o1, ho1⟩ : ∃ o, of1 t.k t.c t.n = o := ⟨_, rfl⟩
        rw [ho0] at E0
        rw [ho1] at E1
        obtain ⟨r0', hr0⟩ : ∃ o, IntKind.u64.wrap (x0 + o0) = o := ⟨_, rfl⟩
        obtain ⟨r1', hr1⟩ : ∃ o, IntKind.u64.wrap (x1 + o1) = o := ⟨_, rfl⟩
        rw [hr0] at E0
        rw [hr1] at E1
        have CO : Hid (∀ W, Below w.heap.size w W → Calls Tryd.prog 6 #[.agg #[.string t.k, .int .i64 t.c, .int .i64 t.n, .string t.v, .bool t.d]] W fun e w' => e = .returned (.agg #[.int .i64 1, .int .u64 o0, .int .u64 o1]) ∧ Below W.heap.size W w') := fun W bw => by
          rw [← ho0, ← ho1]
          exact tof_any _ _ _ _ _ W (LL.out.keep bw) hkk
        have CJ := aside (fun W => join_at hjw hr0 hr1 W)
        clear e0 e1 hc hE s1 ho0 ho1 hr0 hr1
        have HS4 := aside (HS.out.keep (bnew wr (.cells #[.string t.k, .int .i64 t.c, .int .i64 t.n, .string t.v, .bool t.d] 32)))
        have R5 := quint (heap_alloc_new wr (.cells #[.string t.k, .int .i64 t.c, .int .i64 t.n, .string t.v, .bool t.d] 32))
        have HR5 := aside R5
        clear R5
        go_wp2_with fail
        clear p0 p1 p2 p3 p4 p5 c0 c1 c2 c3 c4 hb hsz
        generalize wr.alloc (.cells #[.string t.k, .int .i64 t.c, .int .i64 t.n, .string t.v, .bool t.d] 32) = V at *
        generalize wr.heap.size = g at *
        obtain ⟨r0, r1, r2, r3, r4⟩ := HR5.out
        obtain ⟨-, -, -, s4⟩ := HS4.out
        obtain ⟨p0, p1, p2, p3, p4, p5⟩ := tri s4
        clear s4 HR5
        go_region_with (first | (go_at_call 6; refine (CO.out _ HS4.out.drew.below).mono ?_; rintro e w1 ⟨rfl, b1⟩; have S5 := HS4.out.drew.keep b1; have HS5 := aside S5; obtain ⟨-, -, -, s5⟩ := S5; obtain ⟨q0, q1, q2, q3, q4, q5⟩ := tri s5; clear s5 b1) | (go_at_call 9; refine (CJ.out _).mono ?_; rintro e w2 ⟨rfl, b2⟩; have S6 := HS5.out.keep b2; have HS6 := aside S6; obtain ⟨-, -, -, s6⟩ := S6; obtain ⟨y0, y1, y2, y3, y4, y5⟩ := tri s6; clear s6 b2))
        all_goals
          go_wp2
          go_roundw
          case rel =>
            refine ⟨j + 1, by go_num, by omega, ?_⟩
            rw [E0.out, E1.out]
            exact HS6.out.set _ _ _
          case measure => simp [intOf]; omega
    · have hjl : j = len := by omega
      subst hjl
      obtain ⟨-, hsz, s1, s2⟩ := S
      obtain ⟨p0, p1, p2, p3, p4, p5⟩ := tri s1
      obtain ⟨q0, q1, q2, q3, q4, q5⟩ := tri s2
      clear s1 s2
      go_wp2
      exact bodyPost_ret (v := talT T j) (by simp [results, Tryd.results10, go_sem, p0, p1, p2, talT]) rfl ⟨rfl, ((HS.out.below.setCell (by simp) _).setCell (by simp) _).setCell (by simp) _⟩

set_option maxHeartbeats 3200000 in
set_option maxRecDepth 100000 in
theorem tallRef_any (a : Option Addr) (len cap : Nat) (T : Nat → En) (w : World) (h : EntsIn w a len cap T) :
    Calls Tryd.prog 11 #[.slice a len cap] w fun e w' => e = .returned (talT T len) ∧ Below w.heap.size w w' := by
  have HE := aside h
  obtain ⟨hlc, hcm, -⟩ := h
  have hmx : (len : Int) ≤ 9223372036854775807 := by unfold maxLen at hcm; omega
  clear hlc hcm
  go_enter Tryd.func11, Tryd.ntmps11
  go_wp2
  go_loopw [4] (fun i wr => ∃ j : Nat, i = .int .i64 (j : Int) ∧ j ≤ len ∧ TAll w wr (j : Int) (allI f0 (firstE T j)) (allI f1 (firstE T j))) (fun i _ => len - (intOf i).toNat)
  case atStart =>
    refine ⟨0, rfl, Nat.zero_le _, ?_⟩
    rw [show firstE T 0 = [] from rfl, allI_nil, allI_nil]
    exact tall_start w
  case round =>
    obtain ⟨j, rfl, hj, S⟩ := hrel
    have HS := aside S
    by_cases hlt : (j : Int) < (len : Int)
    · have hE := HE.out.keep S.below
      rcases hE.2.2 with h0 | ⟨b, off, rfl, hb, hc⟩
      · omega
      · obtain ⟨⟨c0, c1, c2, c3, c4⟩, hkk⟩ := hc j (by omega)
        have e0 := allI_snoc f0 (firstE T j) (T j)
        have e1 := allI_snoc f1 (firstE T j) (T j)
        rw [← firstE_succ, f0] at e0
        rw [← firstE_succ, f1] at e1
        have E0 := aside e0
        have E1 := aside e1
        have hsz := S.sz
        obtain ⟨-, -, -, s1⟩ := S
        obtain ⟨p0, p1, p2, p3, p4, p5⟩ := tri s1
        generalize T j = t at *
        generalize allI f0 (firstE T j) = x0 at *
        generalize allI f1 (firstE T j) = x1 at *
        have hj0 : (0 : Int) ≤ (j : Int) := by omega
        have hjw : IntKind.i64.wrap ((j : Int) + 1) = (j : Int) + 1 := by rw [IntKind.wrap_i64]; omega
        obtain ⟨o0, ho0⟩ : ∃ o, of0 t.k t.c t.n = o := ⟨_, rfl⟩
        obtain ⟨o1, ho1⟩ : ∃ o, of1 t.k t.c t.n = o := ⟨_, rfl⟩
        rw [ho0] at E0
        rw [ho1] at E1
        obtain ⟨r0', hr0⟩ : ∃ o, IntKind.u64.wrap (x0 + o0) = o := ⟨_, rfl⟩
        obtain ⟨r1', hr1⟩ : ∃ o, IntKind.u64.wrap (x1 + o1) = o := ⟨_, rfl⟩
        rw [hr0] at E0
        rw [hr1] at E1
        have CO : Hid (∀ W, Below w.heap.size w W → Calls Tryd.prog 7 #[.agg #[.string t.k, .int .i64 t.c, .int .i64 t.n, .string t.v, .bool t.d]] W fun e w' => e = .returned (.agg #[.int .i64 1, .int .u64 o0, .int .u64 o1]) ∧ Below W.heap.size W w') := fun W bw => by
          rw [← ho0, ← ho1]
          exact tofRef_any _ _ _ _ _ W hkk
        have CJ := aside (fun W => joinRef_at hjw hr0 hr1 W)
        clear e0 e1 hc hE s1 ho0 ho1 hr0 hr1
        have HS4 := HS
        go_wp2_with fail
        go_region_with (first | (go_at_call 7; refine (CO.out _ HS4.out.drew.below).mono ?_; rintro e w1 ⟨rfl, b1⟩; have S5 := HS4.out.drew.keep b1; have HS5 := aside S5; obtain ⟨-, -, -, s5⟩ := S5; obtain ⟨q0, q1, q2, q3, q4, q5⟩ := tri s5; clear s5 b1) | (go_at_call 17; refine (CJ.out _).mono ?_; rintro e w2 ⟨rfl, b2⟩; have S6 := HS5.out.keep b2; have HS6 := aside S6; obtain ⟨-, -, -, s6⟩ := S6; obtain ⟨y0, y1, y2, y3, y4, y5⟩ := tri s6; clear s6 b2))
        all_goals
          go_wp2
          go_roundw
          case rel =>
            refine ⟨j + 1, by go_num, by omega, ?_⟩
            rw [E0.out, E1.out]
            exact HS6.out.set _ _ _
          case measure => simp [intOf]; omega
    · have hjl : j = len := by omega
      subst hjl
      obtain ⟨-, hsz, s1, s2⟩ := S
      obtain ⟨p0, p1, p2, p3, p4, p5⟩ := tri s1
      obtain ⟨q0, q1, q2, q3, q4, q5⟩ := tri s2
      clear s1 s2
      go_wp2
      exact bodyPost_ret (v := talT T j) (by simp [results, Tryd.results11, go_sem, p0, p1, p2, talT]) rfl ⟨rfl, ((HS.out.below.setCell (by simp) _).setCell (by simp) _).setCell (by simp) _⟩

end Go.Proofs.YtccfhegckdmanaaDoor

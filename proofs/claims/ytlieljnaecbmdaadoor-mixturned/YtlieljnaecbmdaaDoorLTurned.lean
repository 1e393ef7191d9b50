/-
  The law MixTurned, walked.
-/
import Derived.Test.YtlieljnaecbmdaaDoorMShown
import Derived.Test.YtlieljnaecbmdaaDoorMTurn2
import Derived.Test.YtlieljnaecbmdaaDoorLGroupAt
import Derived.OrdersHeld
namespace Go.Proofs.YtlieljnaecbmdaaDoor
open Go.RowKit
set_option linter.unusedVariables false

/-- What is kept in the loop: the turned ones and the rest, in rows of their own. -/
structure LSt (V wr : World) (len : Nat) (T : Nat → En) (v8 v9 : Value) (nA nR : Nat) (A R : List En) : Prop where
  below : Below V.heap.size V wr
  oA : wr.ownsRow V.heap.size 32 5 v8 nA (entCells A)
  oR : wr.ownsRow V.heap.size 32 5 v9 nR (entCells R)
  apart : ∀ k, v8.ownBlock = some k → v9.ownBlock ≠ some k
  hlen : nA + nR = len
  kA : KeysOk A
  kR : KeysOk R
  sums : ∀ f : En → Int, (A.map f).sum + (R.map f).sum = ((firstE T len).map f).sum

theorem LSt.lA {V wr : World} {len : Nat} {T : Nat → En} {v8 v9 : Value} {nA nR : Nat} {A R : List En} (h : LSt V wr len T v8 v9 nA nR A R) : A.length = nA := by
  have := h.oA.1; rw [entCells_length] at this; omega
theorem LSt.lR {V wr : World} {len : Nat} {T : Nat → En} {v8 v9 : Value} {nA nR : Nat} {A R : List En} (h : LSt V wr len T v8 v9 nA nR A R) : R.length = nR := by
  have := h.oR.1; rw [entCells_length] at this; omega

def LRel (V : World) (len lenP : Nat) (T : Nat → En) (v8 v9 i : Value) (wr : World) : Prop :=
  ∃ (j nA nR c8 c9 : Nat) (a8 a9 : Option Addr) (A R : List En), i = .int .i64 (j : Int) ∧ v8 = .slice a8 nA c8 ∧ v9 = .slice a9 nR c9 ∧ j ≤ lenP ∧ LSt V wr len T v8 v9 nA nR A R

theorem keys_first {w : World} {a : Option Addr} {len cap : Nat} {T : Nat → En} (h : EntsIn w a len cap T) : KeysOk ((List.range len).map T) := by
  intro e he
  simp only [List.mem_map, List.mem_range] at he
  obtain ⟨i, hi, rfl⟩ := he
  rcases h.2.2 with h0 | ⟨b, off, -, -, hc⟩
  · omega
  · exact (hc i hi).2

/-- One round: an entry pulled out of the rest. -/
theorem LSt.step {V wr w1 : World} {len : Nat} {T : Nat → En} {v8 : Value} {nA m g c g1 c1 k : Nat} {A R : List En} {o : Obj} (h : LSt V wr len T v8 (.slice (some ⟨g, 0, none⟩) (m + 1) c) nA (m + 1) A R)
    (own1 : w1.ownsRow V.heap.size 32 5 (.slice (some ⟨g1, 0, none⟩) (nA + 1) c1) (nA + 1) (entCells (A ++ [nthE R k]))) (gr1 : (wr.alloc o).grownBy w1 v8.ownBlock) (at1 : v8.ownBlock = some g1 ∨ g1 = (wr.alloc o).heap.size) (hk : k < m + 1) :
    (w1.ownsRow V.heap.size 32 5 (.slice (some ⟨g, 0, none⟩) (m + 1) c) (m + 1) (entCells R)) ∧
    LSt V (((((w1.setCell ⟨g, k * 5, none⟩ (.string (nthE R m).k)).setCell ⟨g, k * 5 + 1, none⟩ (.int .i64 (nthE R m).c)).setCell ⟨g, k * 5 + 2, none⟩ (.int .i64 (nthE R m).n)).setCell ⟨g, k * 5 + 3, none⟩ (.string (nthE R m).v)).setCell ⟨g, k * 5 + 4, none⟩ (.bool (nthE R m).d)) len T (.slice (some ⟨g1, 0, none⟩) (nA + 1) c1) (.slice (some ⟨g, 0, none⟩) m c) (nA + 1) m (A ++ [nthE R k]) (pulled R m k) := by
  have hR := h.lR
  have hgl := h.oR.lt g rfl
  have hne : g1 ≠ g := by
    rcases at1 with at1 | at1
    · intro e; subst e; exact h.apart _ at1 rfl
    · simp at at1; omega
  have oR1 := (h.oR.alloc o).kept gr1 (.inr (by intro e; exact h.apart g e.symm rfl))
  have hsz := h.below.size
  have b1 : Below V.heap.size V w1 := (h.below.alloc hsz o).grown gr1 (by simp; omega) (fun j hj => (h.oA.lt j hj).1)
  refine ⟨oR1, ?_⟩
  have op := own_put oR1 (nthE R m) (j := k) (by omega)
  have oA2 : ∀ (W : World) (off : Nat) (u : Value), W.ownsRow V.heap.size 32 5 (.slice (some ⟨g1, 0, none⟩) (nA + 1) c1) (nA + 1) (entCells (A ++ [nthE R k])) → (W.setCell ⟨g, off, none⟩ u).ownsRow V.heap.size 32 5 (.slice (some ⟨g1, 0, none⟩) (nA + 1) c1) (nA + 1) (entCells (A ++ [nthE R k])) :=
    fun W off u hW => ownsRow_setCell_other hW (by simp [Value.ownBlock]; exact hne) u
  refine ⟨((((b1.setCell hgl.1 _).setCell hgl.1 _).setCell hgl.1 _).setCell hgl.1 _).setCell hgl.1 _, oA2 _ _ _ (oA2 _ _ _ (oA2 _ _ _ (oA2 _ _ _ (oA2 _ _ _ own1)))), own_shrink op, ?_, by have := h.hlen; omega, ?_, pulled_keys hR h.kR, ?_⟩
  · intro j hj; simp [Value.ownBlock] at hj ⊢; omega
  · intro e he
    rcases List.mem_append.1 he with he | he
    · exact h.kA e he
    · simp at he; subst he; exact h.kR _ (List.mem_of_getElem? (nthE_get (by omega)))
  · intro f
    have e1 := pulled_sum f R m k hR hk
    have e2 := h.sums f
    rw [List.map_append, List.sum_append]
    simp only [List.map_cons, List.map_nil, List.sum_cons, List.sum_nil]
    omega

/-- All over a whole row. -/
theorem all_row {X : World} {B g n cap : Nat} {M : List En} (own : X.ownsRow B 32 5 (.slice (some ⟨g, 0, none⟩) n cap) n (entCells M)) (hk : KeysOk M) (L : Lanes X) :
    Calls Tryd.prog 12 #[.slice (some ⟨g, 0, none⟩) n cap] X fun r w' => r = .returned (allL M) ∧ Below X.heap.size X w' := by
  have hl : M.length = n := by have := own.1; rw [entCells_length] at this; omega
  obtain ⟨aT, cT, -, -, parts⟩ := slice_parts own (n := 0) (Nat.zero_le _) hk
  exact (all_parts (X0 := X) hl (Nat.zero_le _) L (parts X (Below.refl _ X))).2.2

/-- A block of another type than the row's stays where the row grows. -/
theorem sum_kept {wc w6 : World} {B i n : Nat} {v : Value} {M : List En} {o0 o1 : Int} (h : wc.ownsRow B 32 5 v n (entCells M)) (G : wc.heap[i]? = some (.cells #[.int .u64 o0, .int .u64 o1] 27)) {o : Obj} (gr : (wc.alloc o).grownBy w6 v.ownBlock) :
    w6.heap[i]? = some (.cells #[.int .u64 o0, .int .u64 o1] 27) := by
  have hi : i < wc.heap.size := (Array.getElem?_eq_some_iff.1 G).1
  have h1 := blk_on G (bnew wc o)
  refine (gr.block i (by simp; omega) ?_).trans h1
  rcases h.2 with ⟨rfl, rfl⟩ | ⟨g, cap, cur, rfl, hb, hg, hn, hm, hc1, hc2⟩
  · simp [Value.ownBlock]
  · intro q
    simp [Value.ownBlock] at q
    subst q
    rw [G] at hg
    simp at hg

theorem keep15 {w4 X X' : World} {i7 : Nat} {x0 x1 : Int} (h : Below w4.heap.size w4 X ∧ X.cell? ⟨i7, 0, none⟩ = some (.int .u64 x0) ∧ X.cell? ⟨i7, 1, none⟩ = some (.int .u64 x1)) (bb : Below X.heap.size X X') : Below w4.heap.size w4 X' ∧ X'.cell? ⟨i7, 0, none⟩ = some (.int .u64 x0) ∧ X'.cell? ⟨i7, 1, none⟩ = some (.int .u64 x1) := by
  obtain ⟨h, h0, h1⟩ := h
  exact ⟨bthen h bb, cell_in h0 bb, cell_in h1 bb⟩

theorem keep19 {w8 X X' : World} {i13 i14 i7 n0 : Nat} {o0 o1 p0 p1 x0 x1 : Int} {e : En} (h : Below w8.heap.size w8 X ∧ X.cell? ⟨i13, 0, none⟩ = some (.int .u64 o0) ∧ X.cell? ⟨i13, 1, none⟩ = some (.int .u64 o1) ∧ X.cell? ⟨i14, 0, none⟩ = some (.int .u64 p0) ∧ X.cell? ⟨i14, 1, none⟩ = some (.int .u64 p1) ∧ X.cell? ⟨i7, 0, none⟩ = some (.int .u64 x0) ∧ X.cell? ⟨i7, 1, none⟩ = some (.int .u64 x1) ∧ X.cell? ⟨n0, 0, none⟩ = some (.string e.k) ∧ X.cell? ⟨n0, 1, none⟩ = some (.int .i64 e.c) ∧ X.cell? ⟨n0, 2, none⟩ = some (.int .i64 e.n) ∧ X.cell? ⟨n0, 3, none⟩ = some (.string e.v) ∧ X.cell? ⟨n0, 4, none⟩ = some (.bool e.d)) (bb : Below X.heap.size X X') : Below w8.heap.size w8 X' ∧ X'.cell? ⟨i13, 0, none⟩ = some (.int .u64 o0) ∧ X'.cell? ⟨i13, 1, none⟩ = some (.int .u64 o1) ∧ X'.cell? ⟨i14, 0, none⟩ = some (.int .u64 p0) ∧ X'.cell? ⟨i14, 1, none⟩ = some (.int .u64 p1) ∧ X'.cell? ⟨i7, 0, none⟩ = some (.int .u64 x0) ∧ X'.cell? ⟨i7, 1, none⟩ = some (.int .u64 x1) ∧ X'.cell? ⟨n0, 0, none⟩ = some (.string e.k) ∧ X'.cell? ⟨n0, 1, none⟩ = some (.int .i64 e.c) ∧ X'.cell? ⟨n0, 2, none⟩ = some (.int .i64 e.n) ∧ X'.cell? ⟨n0, 3, none⟩ = some (.string e.v) ∧ X'.cell? ⟨n0, 4, none⟩ = some (.bool e.d) := by
  obtain ⟨h, h0, h1, h2, h3, h4, h5, h6, h7, h8, h9, h10⟩ := h
  exact ⟨bthen h bb, cell_in h0 bb, cell_in h1 bb, cell_in h2 bb, cell_in h3 bb, cell_in h4 bb, cell_in h5 bb, cell_in h6 bb, cell_in h7 bb, cell_in h8 bb, cell_in h9 bb, cell_in h10 bb⟩

set_option maxRecDepth 100000 in
set_option maxHeartbeats 12800000 in
theorem lturned_walk (a : Option Addr) (len cap : Nat) (T : Nat → En) (aP : Option Addr) (lenP capP : Nat) (TP : Nat → Int) (e : En) (w : World) (L : Lanes w) (hE : EntsIn w a len cap T) (hform : (a = none ∧ len = 0 ∧ cap = 0) ∨ ∃ y, a = some y) (hz : len * 56 ≤ 140737488351232) (hP : IntsIn w aP lenP capP TP) (hk : e.k.size ≤ 140737488351232) :
    Calls Tryd.prog 6 #[.slice a len cap, .slice aP lenP capP, .agg #[.string e.k, .int .i64 e.c, .int .i64 e.n, .string e.v, .bool e.d]] w fun r w' => r = .returned (.bool true) ∧ Below w.heap.size w w' := by
  have LL := aside L
  have HE := aside hE
  have HPP := aside hP
  have hpx : (lenP : Int) ≤ 9223372036854775807 := by have := hP.1; have := hP.2.1; unfold maxLen at *; omega
  have kF := aside (keys_first hE)
  clear L hE hP
  go_enter Tryd.func6, Tryd.ntmps6
  go_wp2_with fail
  refine (shown_any _ (LL.out.keep (bnew w (.cells #[.string e.k, .int .i64 e.c, .int .i64 e.n, .string e.v, .bool e.d] 32)))).mono ?_
  rintro r w1 ⟨rfl, b1⟩
  have e1 := aside (blk_on (heap_alloc_new w (.cells #[.string e.k, .int .i64 e.c, .int .i64 e.n, .string e.v, .bool e.d] 32)) b1)
  have B1 := aside (bthen (bnew w (.cells #[.string e.k, .int .i64 e.c, .int .i64 e.n, .string e.v, .bool e.d] 32)) b1)
  clear b1
  go_wp2_with fail
  refine (all_any a len cap T _ (LL.out.keep B1.out) (HE.out.keep B1.out)).mono ?_
  rintro r w2 ⟨rfl, b2⟩
  have FV := aside (bthen (bthen B1.out b2) (bnew w2 (.cells #[.int .u64 (allI f0 (firstE T len)), .int .u64 (allI f1 (firstE T len))] 27)))
  have eV := aside (blk_on (blk_on e1.out b2) (bnew w2 (.cells #[.int .u64 (allI f0 (firstE T len)), .int .u64 (allI f1 (firstE T len))] 27)))
  have aV := aside (heap_alloc_new w2 (.cells #[.int .u64 (allI f0 (firstE T len)), .int .u64 (allI f1 (firstE T len))] 27))
  clear b2 B1 e1
  unfold allV
  obtain ⟨x0, hx0⟩ : ∃ x, Hid (allI f0 (firstE T len) = x) := ⟨_, rfl⟩
  obtain ⟨x1, hx1⟩ : ∃ x, Hid (allI f1 (firstE T len) = x) := ⟨_, rfl⟩
  rw [hx0.out, hx1.out] at FV eV aV ⊢
  have HEV := aside (HE.out.keep FV.out)
  go_wp2_with (at_builtin; refine wpList_plain rfl fun K hK => op_append_copy _ _ rfl (by rfl) a len cap T (by rfl) HEV.out hform hz ?_; intro v9 w3 own9 b9; refine hK _ _ ?_; refine Hid.out ?_)
  refine aside ?_
  generalize (w2.alloc (.cells #[.int .u64 x0, .int .u64 x1] 27)) = V at *
  generalize w2.heap.size = i7 at *
  obtain ⟨a9, c9, rfl, -, -, -⟩ := own_slice own9
  have S0 := aside (show LSt V w3 len T (.slice none 0 0) (.slice a9 len c9) 0 len [] ((List.range len).map T) from ⟨b9, World.ownsRow_nil _ _ _ _, own9, fun k hk => by simp [Value.ownBlock] at hk, by omega, fun _ hh => by simp at hh, kF.out, fun f => by simp [firstE]⟩)
  clear own9 b9 HEV
  go_wp2_with fail
  go_loopw [8, 9, 10] (fun v8 v9 i wr => LRel V len lenP T v8 v9 i wr) (fun _ _ i _ => lenP - (intOf i).toNat)
  case atStart => exact ⟨0, 0, len, 0, c9, none, a9, _, _, rfl, rfl, rfl, Nat.zero_le _, S0.out⟩
  case round =>
    clear S0
    obtain ⟨j, nA, nR, c8, c9, a8, a9, A, R, rfl, rfl, rfl, hj, S⟩ := hrel
    by_cases hlt : (j : Int) < (lenP : Int)
    · by_cases hR0 : 0 < nR
      · obtain ⟨m, rfl⟩ : ∃ m, nR = m + 1 := ⟨nR - 1, by omega⟩
        obtain ⟨gR, cR, hv, hgb, hgl⟩ := S.oR.form (by omega)
        injection hv with q1 q2 q3
        subst q1 q3
        have hlR := S.lR
        have hlen := S.hlen
        have hmm : ((m + 1 : Nat) : Int) ≤ 9223372036854775807 := by omega
        rcases (HPP.out.keep (bthen FV.out S.below)).2.2 with h0 | ⟨bP, offP, rfl, hbP, hcP⟩
        · omega
        · have cp := hcP j (by omega)
          clear hcP hbP
          generalize TP j = pj at *
          have hj0 : (0 : Int) ≤ (j : Int) := by omega
          have hpos : (0 : Int) < (m : Int) + 1 := by omega
          have HS := aside S
          clear S
          go_wp2_with fail
          refine (among_any pj (m + 1) _ (by omega) hmm).mono ?_
          rintro r wx ⟨k, rfl, hkm, rfl⟩
          obtain ⟨c0, c1, c2, c3, c4⟩ := row_cells HS.out.oR (i := k) (by omega)
          generalize hnk : nthE R k = t at c0 c1 c2 c3 c4
          have hk0 : (0 : Int) ≤ (k : Int) := by omega
          have hkl : (k : Int) < (m : Int) + 1 := by omega
          have hsz := HS.out.below.size
          go_wp2_with (at_builtin; refine wpList_plain rfl fun K hK => op_append_ent_at _ _ rfl V.heap.size nA (.slice a8 nA c8) A (by rfl) (HS.out.oA.alloc _) _ 1 t (by rfl) (heap_alloc_new _ _) (by omega) (by simp; omega) ?_; intro g1 cc1 w1 own1 gr1 at1; refine hK _ _ ?_; refine Hid.out ?_)
          refine aside ?_
          rw [← hnk] at own1
          obtain ⟨oR1, st1⟩ := HS.out.step own1 gr1 at1 hkm
          have ST := aside st1
          have HCAP : Hid (m ≤ c9) := by
            obtain ⟨aa, cc, hv, hn1, -, -⟩ := own_slice oR1
            injection hv with q1 q2 q3
            subst q3
            show m ≤ c9
            omega
          obtain ⟨d0, d1, d2, d3, d4⟩ := row_cells oR1 (i := m) (by omega)
          obtain ⟨b0, b1, b2, b3, b4⟩ := row_cells oR1 (i := k) (by omega)
          rw [hnk] at b0 b1 b2 b3 b4
          have z0 := oR1.frozenAt (k * 5)
          have z1 := oR1.frozenAt (k * 5 + 1)
          have z2 := oR1.frozenAt (k * 5 + 2)
          have z3 := oR1.frozenAt (k * 5 + 3)
          have z4 := oR1.frozenAt (k * 5 + 4)
          clear st1 own1 gr1 at1 oR1 HS c0 c1 c2 c3 c4
          generalize nthE R m = u at *
          have hm0 : (0 : Int) ≤ (m : Int) := by omega
          have hml : (m : Int) < (m : Int) + 1 := by omega
          have hmx : (m : Int) + 1 ≤ 9223372036854775807 := by omega
          have hms : (m : Int) + 1 - 1 = (m : Int) := by omega
          have hmcap : m ≤ c9 := HCAP.out
          clear hlen hlR hsz hnk hmm hz hgl hgb cp hpos hj0
          go_wp2
          go_roundw
          case rel => exact ⟨j + 1, nA + 1, m, cc1, c9, some ⟨g1, 0, none⟩, some ⟨gR, 0, none⟩, _, _, by go_num, rfl, rfl, by omega, ST.out⟩
          case measure => simp [intOf]; omega
      · have hR1 : nR = 0 := by omega
        subst hR1
        clear hR0
        have hmx : (len : Int) + 1 ≤ 9223372036854775807 := by omega
        have HS := aside S
        go_wp2_with (at_builtin; refine wpList_plain rfl fun K hK => op_append_rows (V := V) _ _ rfl nA 0 (.slice a8 nA c8) (.slice a9 0 c9) A R (by rfl) (by rfl) HS.out.oA HS.out.oR (by rw [HS.out.hlen]; exact hz) HS.out.below ?_; intro v8' w4 own4 b4; refine hK _ _ ?_; refine Hid.out ?_)
        refine aside ?_
        clear hlt
        have hlA := S.lA
        have hlR := S.lR
        have hsum := S.sums
        have hkM : KeysOk (A ++ R) := by
          intro y hy
          rcases List.mem_append.1 hy with hy | hy
          · exact S.kA y hy
          · exact S.kR y hy
        have hnl : nA ≤ len := by have := S.hlen; omega
        rw [S.hlen] at own4
        obtain ⟨aM, cM, rfl, hM1, hM2, -⟩ := own_slice own4
        have hlM : (A ++ R).length = len := by rw [List.length_append, hlA, hlR]; exact S.hlen
        clear HS S
        obtain ⟨aT, cT, sl1, sl2, parts⟩ := slice_parts own4 hnl hkM
        have bw4 := bthen FV.out b4
        have K3 : Hid (∀ X, Below w4.heap.size w4 X → Calls Tryd.prog 12 #[.slice aM len cM] X fun r w' => r = .returned (allL (A ++ R)) ∧ Below X.heap.size X w') := fun X b => (all_parts (X0 := X) hlM hnl (LL.out.keep (bthen bw4 b)) (parts X b)).2.2
        have K2 : Hid (∀ X, Below w4.heap.size w4 X → Calls Tryd.prog 12 #[.slice aM nA cM] X fun r w' => r = .returned (allL ((A ++ R).take nA)) ∧ Below X.heap.size X w') := fun X b => (all_parts (X0 := X) hlM hnl (LL.out.keep (bthen bw4 b)) (parts X b)).2.1
        have K1 : Hid (∀ X, Below w4.heap.size w4 X → Calls Tryd.prog 12 #[.slice aT (len - nA) cT] X fun r w' => r = .returned (allL ((A ++ R).drop nA)) ∧ Below X.heap.size X w') := fun X b => (all_parts (X0 := X) hlM hnl (LL.out.keep (bthen bw4 b)) (parts X b)).1
        rw [List.take_left' hlA] at K2
        rw [List.drop_left' hlA] at K1
        have ex0 : allI f0 (A ++ R) = allI f0 (firstE T len) := allI_eq (by rw [List.map_append, List.sum_append]; exact hsum f0)
        have ex1 : allI f1 (A ++ R) = allI f1 (firstE T len) := allI_eq (by rw [List.map_append, List.sum_append]; exact hsum f1)
        have ey0 := allI_app f0 A R
        have ey1 := allI_app f1 A R
        have CD := aside (fun W => add_at (ey0.trans (ex0.trans hx0.out)) (ey1.trans (ex1.trans hx1.out)) W)
        have em0 : allI f0 (A ++ R ++ [e]) = IntKind.u64.wrap (x0 + f0 e) := by rw [allI_snoc, ex0, hx0.out]
        have em1 : allI f1 (A ++ R ++ [e]) = IntKind.u64.wrap (x1 + f1 e) := by rw [allI_snoc, ex1, hx1.out]
        unfold allL at K3 K2 K1
        rw [ex0, ex1, hx0.out, hx1.out] at K3
        have EM0 := aside em0
        have EM1 := aside em1
        have O4 := aside own4
        have HKM := aside hkM
        have HLM := aside hlM
        have B4 := aside b4
        have S0 : Hid (Below w4.heap.size w4 w4.drew ∧ w4.drew.cell? ⟨i7, 0, none⟩ = some (.int .u64 x0) ∧ w4.drew.cell? ⟨i7, 1, none⟩ = some (.int .u64 x1)) := ⟨(Below.refl _ w4).drew, (pair (blk_on aV.out b4)).1, (pair (blk_on aV.out b4)).2.1⟩
        have nn := fun (X : World) => sum_ne_no (a := x0) (b := x1) rfl rfl X
        clear em0 em1 ex0 ex1 ey0 ey1 hsum own4 hkM hlM b4 parts bw4 hM1 hM2 hlA hlR
        generalize allI f0 A = y0 at *
        generalize allI f1 A = y1 at *
        generalize allI f0 R = z0 at *
        generalize allI f1 R = z1 at *
        go_wp2_with fail
        refine wp_region_held_drew (S := fun X => Below w4.heap.size w4 X ∧ X.cell? ⟨i7, 0, none⟩ = some (.int .u64 x0) ∧ X.cell? ⟨i7, 1, none⟩ = some (.int .u64 x1)) (by kernel_rfl) S0.out (fun hHeld => ?_)
        clear S0
        refine wpAnyH_take (i := 0) (v := ?_) rfl (by kernel_rfl) (by kernel_rfl) (by kernel_rfl) (fun _ _ _ h => h) (Or.inl ⟨by rfl, ?_⟩) (by assumption) ?_
        rotate_left
        · intro w hSw
          go_simp
          try with_reducible rfl
        simp only [Act.put, List.getElem_toArray, List.getElem_cons_zero, List.setIfInBounds_toArray, List.set_cons_zero, List.set_cons_succ]
        refine wpAnyH_take (i := 2) (v := ?_) rfl (by kernel_rfl) (by kernel_rfl) (by kernel_rfl) (fun _ _ _ h => h) (Or.inl ⟨by rfl, ?_⟩) (by assumption) ?_
        rotate_left
        · intro w hSw
          go_simp
          try with_reducible rfl
        simp only [Act.put, List.getElem_toArray, List.getElem_cons_zero, List.getElem_cons_succ, List.setIfInBounds_toArray, List.set_cons_zero, List.set_cons_succ]
        refine wpAnyH_ready (rs := [1]) (by kernel_rfl) (by simp) ?_
        refine AllReadyH.cons rfl (fun K hK => ?_) AllReadyH.nil
        go_simp
        refine (K3.out _ hHeld.1).mono ?_
        rintro e w9 ⟨rfl, bb⟩
        refine hK.out _ _ (keep15 hHeld bb) (fun hHeld => ?_)
        clear hK K 
        refine wpAnyH_take (i := 3) (v := ?_) rfl (by kernel_rfl) (by kernel_rfl) (by kernel_rfl) (fun _ _ _ h => h) (Or.inl ⟨by rfl, ?_⟩) (by assumption) ?_
        rotate_left
        · intro w hSw
          go_simp
          try with_reducible rfl
        simp only [Act.put, List.getElem_toArray, List.getElem_cons_zero, List.getElem_cons_succ, List.setIfInBounds_toArray, List.set_cons_zero, List.set_cons_succ]
        refine wpAnyH_take (i := 4) (v := ?_) rfl (by kernel_rfl) (by kernel_rfl) (by kernel_rfl) (fun _ _ _ h => h) (Or.inl ⟨by rfl, ?_⟩) (by assumption) ?_
        rotate_left
        · intro w hSw
          go_simp
          try with_reducible rfl
        simp only [Act.put, List.getElem_toArray, List.getElem_cons_zero, List.getElem_cons_succ, List.setIfInBounds_toArray, List.set_cons_zero, List.set_cons_succ]
        refine wpAnyH_take (i := 5) (v := ?_) rfl (by kernel_rfl) (by kernel_rfl) (by kernel_rfl) (fun _ _ _ h => h) (Or.inl ⟨by rfl, ?_⟩) (by assumption) ?_
        rotate_left
        · intro w hSw
          go_simp
          try with_reducible rfl
        simp only [Act.put, List.getElem_toArray, List.getElem_cons_zero, List.getElem_cons_succ, List.setIfInBounds_toArray, List.set_cons_zero, List.set_cons_succ]
        refine wpAnyH_take (i := 6) (v := ?_) rfl (by kernel_rfl) (by kernel_rfl) (by kernel_rfl) (fun _ _ _ h => h) (Or.inl ⟨by rfl, ?_⟩) (by assumption) ?_
        rotate_left
        · intro w hSw
          go_simp
          try with_reducible rfl
        simp only [Act.put, List.getElem_toArray, List.getElem_cons_zero, List.getElem_cons_succ, List.setIfInBounds_toArray, List.set_cons_zero, List.set_cons_succ]
        refine wpAnyH_take (i := 7) (v := ?_) rfl (by kernel_rfl) (by kernel_rfl) (by kernel_rfl) (fun _ _ _ h => h) (Or.inl ⟨by rfl, ?_⟩) (by assumption) ?_
        rotate_left
        · intro w hSw
          go_simp
          try with_reducible rfl
        simp only [Act.put, List.getElem_toArray, List.getElem_cons_zero, List.getElem_cons_succ, List.setIfInBounds_toArray, List.set_cons_zero, List.set_cons_succ]
        refine wpAnyH_take (i := 9) (v := ?_) rfl (by kernel_rfl) (by kernel_rfl) (by kernel_rfl) (fun _ _ _ h => h) (Or.inl ⟨by rfl, ?_⟩) (by assumption) ?_
        rotate_left
        · intro w hSw
          go_simp
          try with_reducible rfl
        simp only [Act.put, List.getElem_toArray, List.getElem_cons_zero, List.getElem_cons_succ, List.setIfInBounds_toArray, List.set_cons_zero, List.set_cons_succ]
        refine wpAnyH_take (i := 10) (v := ?_) rfl (by kernel_rfl) (by kernel_rfl) (by kernel_rfl) (fun _ _ _ h => h) (Or.inl ⟨by rfl, ?_⟩) (by assumption) ?_
        rotate_left
        · intro w hSw
          go_simp
          try with_reducible rfl
        simp only [Act.put, List.getElem_toArray, List.getElem_cons_zero, List.getElem_cons_succ, List.setIfInBounds_toArray, List.set_cons_zero, List.set_cons_succ]
        refine wpAnyH_take (i := 11) (v := ?_) rfl (by kernel_rfl) (by kernel_rfl) (by kernel_rfl) (fun _ _ _ h => h) (Or.inl ⟨by rfl, ?_⟩) (by assumption) ?_
        rotate_left
        · intro w hSw
          go_simp
          try with_reducible rfl
        simp only [Act.put, List.getElem_toArray, List.getElem_cons_zero, List.getElem_cons_succ, List.setIfInBounds_toArray, List.set_cons_zero, List.set_cons_succ]
        refine wpAnyH_take (i := 14) (v := ?_) rfl (by kernel_rfl) (by kernel_rfl) (by kernel_rfl) (fun _ _ _ h => h) (Or.inl ⟨by rfl, ?_⟩) (by assumption) ?_
        rotate_left
        · intro w hSw
          go_simp
          try with_reducible rfl
        simp only [Act.put, List.getElem_toArray, List.getElem_cons_zero, List.getElem_cons_succ, List.setIfInBounds_toArray, List.set_cons_zero, List.set_cons_succ]
        refine wpAnyH_ready (rs := [8]) (by kernel_rfl) (by simp) ?_
        refine AllReadyH.cons rfl (fun K hK => ?_) AllReadyH.nil
        go_simp
        refine (K2.out _ hHeld.1).mono ?_
        rintro e w9 ⟨rfl, bb⟩
        refine hK.out _ _ (keep15 hHeld bb) (fun hHeld => ?_)
        clear hK K 
        refine wpAnyH_ready (rs := [12]) (by kernel_rfl) (by simp) ?_
        refine AllReadyH.cons rfl (fun K hK => ?_) AllReadyH.nil
        go_simp
        refine (K1.out _ hHeld.1).mono ?_
        rintro e w9 ⟨rfl, bb⟩
        refine hK.out _ _ (keep15 hHeld bb) (fun hHeld => ?_)
        clear hK K 
        refine wpAnyH_ready (rs := [13]) (by kernel_rfl) (by simp) ?_
        refine AllReadyH.cons rfl (fun K hK => ?_) AllReadyH.nil
        go_simp
        refine (CD.out _).mono ?_
        rintro e w9 ⟨rfl, bb⟩
        refine hK.out _ _ (keep15 hHeld bb) (fun hHeld => ?_)
        clear hK K 
        refine wpAnyH_take (i := 15) (v := ?_) rfl (by kernel_rfl) (by kernel_rfl) (by kernel_rfl) (fun _ _ _ h => h) (Or.inl ⟨by rfl, ?_⟩) (by assumption) ?_
        rotate_left
        · intro w hSw
          go_simp
          try with_reducible rfl
        simp only [Act.put, List.getElem_toArray, List.getElem_cons_zero, List.getElem_cons_succ, List.setIfInBounds_toArray, List.set_cons_zero, List.set_cons_succ]
        refine wpAnyH_take (i := 16) (v := ?_) rfl (by kernel_rfl) (by kernel_rfl) (by kernel_rfl) (fun _ _ _ h => h) (Or.inl ⟨by rfl, ?_⟩) (by assumption) ?_
        rotate_left
        · intro w hSw
          go_simp
          try with_reducible rfl
        simp only [Act.put, List.getElem_toArray, List.getElem_cons_zero, List.getElem_cons_succ, List.setIfInBounds_toArray, List.set_cons_zero, List.set_cons_succ]
        refine wpAnyH_done (by kernel_rfl) ?_ _
        have B9 := aside (bthen B4.out hHeld.1)
        have O9 := aside (own_on O4.out hHeld.1)
        clear hHeld K1 K2 K3 CD O4 B4 sl1 sl2 nn
        generalize hw0 : w9 = wa at *
        clear hw0
        obtain ⟨e0, e1, e2, e3, e4⟩ := quint (blk_on eV.out B9.out)
        have HP9 := aside (bthen FV.out B9.out)
        go_wp2_with fail
        refine (all_one (e := e) (LL.out.keep (bthen HP9.out (bnew wa (.cells #[.string e.k, .int .i64 e.c, .int .i64 e.n, .string e.v, .bool e.d] 32)))) (heap_alloc_new wa _) hk).mono ?_
        rintro r wb ⟨rfl, bb1⟩
        have Bb := aside (bthen (bthen B9.out (bnew wa (.cells #[.string e.k, .int .i64 e.c, .int .i64 e.n, .string e.v, .bool e.d] 32))) bb1)
        have Ob := aside (own_on (own_on O9.out (bnew wa (.cells #[.string e.k, .int .i64 e.c, .int .i64 e.n, .string e.v, .bool e.d] 32))) bb1)
        clear bb1 B9 O9 HP9 e0 e1 e2 e3 e4
        have CO0 : Hid (∀ W, Below w.heap.size w W → Calls Tryd.prog 10 #[.string e.k, .agg #[.int .i64 e.c, .int .i64 e.n]] W fun r w' => r = .returned (.agg #[.int .u64 (f0 e), .int .u64 (f1 e)]) ∧ Below W.heap.size W w') := fun W b => of_any e.k e.c e.n W (LL.out.keep b) (by omega)
        have or0 := aside (f0_range e)
        have or1 := aside (f1_range e)
        have HKE := aside (show KeysOk (A ++ R ++ [e]) from by
          intro y hy
          rcases List.mem_append.1 hy with hy | hy
          · exact HKM.out y hy
          · simp at hy; subst hy; exact hk)
        unfold allL
        rw [allI_one (f0_range e), allI_one (f1_range e)]
        generalize f0 e = o0 at *
        generalize f1 e = o1 at *
        have Bc := aside (bthen Bb.out (bnew wb (.cells #[.int .u64 o0, .int .u64 o1] 27)))
        have Oc := aside (own_on Ob.out (bnew wb (.cells #[.int .u64 o0, .int .u64 o1] 27)))
        have G13 := aside (heap_alloc_new wb (.cells #[.int .u64 o0, .int .u64 o1] 27))
        obtain ⟨i13, hi13⟩ : ∃ i, i = wb.heap.size := ⟨_, rfl⟩
        obtain ⟨e0, e1, e2, e3, e4⟩ := quint (blk_on eV.out Bc.out)
        rw [← hi13] at G13
        have hb13 : i13 < (wb.alloc (.cells #[.int .u64 o0, .int .u64 o1] 27)).heap.size := by rw [hi13]; simp
        have hcsz := Bc.out.size
        clear Bb Ob
        go_wp2_with (at_builtin; refine wpList_plain rfl fun K hK => op_append_ent _ _ rfl V.heap.size len (.slice aM len cM) (A ++ R) (by rfl) (Oc.out.alloc _) (wb.heap.size + 1) 1 e (by rfl) (by have := heap_alloc_new (wb.alloc (.cells #[.int .u64 o0, .int .u64 o1] 27)) (.cells #[.string e.k, .int .i64 e.c, .int .i64 e.n, .string e.v, .bool e.d] 32); simpa using this) hz (by simp; simp at hcsz; omega) ?_; intro g cap2 w6 own6 gr6; refine hK _ _ ?_; refine Hid.out ?_)
        refine aside ?_
        have B6 := aside ((Bc.out.alloc hcsz (.cells #[.string e.k, .int .i64 e.c, .int .i64 e.n, .string e.v, .bool e.d] 32)).grown gr6 (by simp; simp at hcsz; omega) (fun k hk => (Oc.out.lt k hk).1))
        have G6 := aside (sum_kept Oc.out G13.out gr6)
        have O6 := aside own6
        clear own6 gr6 Oc Bc G13 hb13 hcsz e0 e1 e2 e3 e4
        rw [← hi13]
        clear hi13
        go_wp2_with fail
        refine (all_row O6.out HKE.out (LL.out.keep (bthen FV.out B6.out))).mono ?_
        rintro r w7 ⟨rfl, b7⟩
        obtain ⟨p0, hp0⟩ : ∃ p, IntKind.u64.wrap (x0 + o0) = p := ⟨_, rfl⟩
        obtain ⟨p1, hp1⟩ : ∃ p, IntKind.u64.wrap (x1 + o1) = p := ⟨_, rfl⟩
        unfold allL
        rw [EM0.out, EM1.out, hp0, hp1]
        have B8 := aside (bthen (bthen B6.out b7) (bnew w7 (.cells #[.int .u64 p0, .int .u64 p1] 27)))
        have G8 := aside (blk_on (blk_on G6.out b7) (bnew w7 (.cells #[.int .u64 p0, .int .u64 p1] 27)))
        have N8 := aside (heap_alloc_new w7 (.cells #[.int .u64 p0, .int .u64 p1] 27))
        clear b7 B6 G6 O6 EM0 EM1
        have CP := aside (fun W => add_at hp0 hp1 W)
        have xr0 := allI_range f0 (firstE T len)
        have xr1 := allI_range f1 (firstE T len)
        rw [hx0.out] at xr0
        rw [hx1.out] at xr1
        have CL1 := aside (fun W => less_at (show IntKind.u64.wrap (p0 - o0) = x0 by rw [← hp0, IntKind.wrap_u64, IntKind.wrap_u64]; omega) (show IntKind.u64.wrap (p1 - o1) = x1 by rw [← hp1, IntKind.wrap_u64, IntKind.wrap_u64]; omega) W)
        have CL2 := aside (fun W => less_at (show IntKind.u64.wrap (p0 - x0) = o0 by have := or0.out; rw [← hp0, IntKind.wrap_u64, IntKind.wrap_u64]; omega) (show IntKind.u64.wrap (p1 - x1) = o1 by have := or1.out; rw [← hp1, IntKind.wrap_u64, IntKind.wrap_u64]; omega) W)
        clear xr0 xr1 hp0 hp1
        go_wp2_with fail
        generalize w7.alloc (.cells #[.int .u64 p0, .int .u64 p1] 27) = w8 at *
        generalize w7.heap.size = i14 at *
        have CO : Hid (∀ W, Below w8.heap.size w8 W → Calls Tryd.prog 10 #[.string e.k, .agg #[.int .i64 e.c, .int .i64 e.n]] W fun r w' => r = .returned (.agg #[.int .u64 o0, .int .u64 o1]) ∧ Below W.heap.size W w') := fun W b => CO0.out W (bthen FV.out (bthen B8.out b))
        have qs := fun (a b : Int) (X : World) => sum_same a b X
        obtain ⟨e0, e1, e2, e3, e4⟩ := quint (blk_on eV.out B8.out)
        have S1 : Hid (Below w8.heap.size w8 w8.drew ∧ w8.drew.cell? ⟨i13, 0, none⟩ = some (.int .u64 o0) ∧ w8.drew.cell? ⟨i13, 1, none⟩ = some (.int .u64 o1) ∧ w8.drew.cell? ⟨i14, 0, none⟩ = some (.int .u64 p0) ∧ w8.drew.cell? ⟨i14, 1, none⟩ = some (.int .u64 p1) ∧ w8.drew.cell? ⟨i7, 0, none⟩ = some (.int .u64 x0) ∧ w8.drew.cell? ⟨i7, 1, none⟩ = some (.int .u64 x1) ∧ w8.drew.cell? ⟨w.heap.size, 0, none⟩ = some (.string e.k) ∧ w8.drew.cell? ⟨w.heap.size, 1, none⟩ = some (.int .i64 e.c) ∧ w8.drew.cell? ⟨w.heap.size, 2, none⟩ = some (.int .i64 e.n) ∧ w8.drew.cell? ⟨w.heap.size, 3, none⟩ = some (.string e.v) ∧ w8.drew.cell? ⟨w.heap.size, 4, none⟩ = some (.bool e.d)) := ⟨(Below.refl _ w8).drew, (pair G8.out).1, (pair G8.out).2.1, (pair N8.out).1, (pair N8.out).2.1, (pair (blk_on aV.out B8.out)).1, (pair (blk_on aV.out B8.out)).2.1, e0, e1, e2, e3, e4⟩
        clear e0 e1 e2 e3 e4 CO0
        refine wp_region_held_drew (S := fun X => Below w8.heap.size w8 X ∧ X.cell? ⟨i13, 0, none⟩ = some (.int .u64 o0) ∧ X.cell? ⟨i13, 1, none⟩ = some (.int .u64 o1) ∧ X.cell? ⟨i14, 0, none⟩ = some (.int .u64 p0) ∧ X.cell? ⟨i14, 1, none⟩ = some (.int .u64 p1) ∧ X.cell? ⟨i7, 0, none⟩ = some (.int .u64 x0) ∧ X.cell? ⟨i7, 1, none⟩ = some (.int .u64 x1) ∧ X.cell? ⟨w.heap.size, 0, none⟩ = some (.string e.k) ∧ X.cell? ⟨w.heap.size, 1, none⟩ = some (.int .i64 e.c) ∧ X.cell? ⟨w.heap.size, 2, none⟩ = some (.int .i64 e.n) ∧ X.cell? ⟨w.heap.size, 3, none⟩ = some (.string e.v) ∧ X.cell? ⟨w.heap.size, 4, none⟩ = some (.bool e.d)) (by kernel_rfl) S1.out (fun hHeld => ?_)
        clear S1
        refine wpAnyH_take (i := 0) (v := ?_) rfl (by kernel_rfl) (by kernel_rfl) (by kernel_rfl) (fun _ _ _ h => h) (Or.inl ⟨by rfl, ?_⟩) (by assumption) ?_
        rotate_left
        · intro w hSw
          go_simp
          try with_reducible rfl
        simp only [Act.put, List.getElem_toArray, List.getElem_cons_zero, List.setIfInBounds_toArray, List.set_cons_zero, List.set_cons_succ]
        refine wpAnyH_take (i := 1) (v := ?_) rfl (by kernel_rfl) (by kernel_rfl) (by kernel_rfl) (fun _ _ _ h => h) (Or.inl ⟨by rfl, ?_⟩) (by assumption) ?_
        rotate_left
        · intro w hSw
          go_simp
          try with_reducible rfl
        simp only [Act.put, List.getElem_toArray, List.getElem_cons_zero, List.getElem_cons_succ, List.setIfInBounds_toArray, List.set_cons_zero, List.set_cons_succ]
        refine wpAnyH_take (i := 2) (v := ?_) rfl (by kernel_rfl) (by kernel_rfl) (by kernel_rfl) (fun _ _ _ h => h) (Or.inl ⟨by rfl, ?_⟩) (by assumption) ?_
        rotate_left
        · intro w hSw
          go_simp
          try with_reducible rfl
        simp only [Act.put, List.getElem_toArray, List.getElem_cons_zero, List.getElem_cons_succ, List.setIfInBounds_toArray, List.set_cons_zero, List.set_cons_succ]
        refine wpAnyH_take (i := 3) (v := ?_) rfl (by kernel_rfl) (by kernel_rfl) (by kernel_rfl) (fun _ _ _ h => h) (Or.inl ⟨by rfl, ?_⟩) (by assumption) ?_
        rotate_left
        · intro w hSw
          go_simp
          try with_reducible rfl
        simp only [Act.put, List.getElem_toArray, List.getElem_cons_zero, List.getElem_cons_succ, List.setIfInBounds_toArray, List.set_cons_zero, List.set_cons_succ]
        refine wpAnyH_take (i := 4) (v := ?_) rfl (by kernel_rfl) (by kernel_rfl) (by kernel_rfl) (fun _ _ _ h => h) (Or.inl ⟨by rfl, ?_⟩) (by assumption) ?_
        rotate_left
        · intro w hSw
          go_simp
          try with_reducible rfl
        simp only [Act.put, List.getElem_toArray, List.getElem_cons_zero, List.getElem_cons_succ, List.setIfInBounds_toArray, List.set_cons_zero, List.set_cons_succ]
        refine wpAnyH_ready (rs := [5]) (by kernel_rfl) (by simp) ?_
        refine AllReadyH.cons rfl (fun K hK => ?_) AllReadyH.nil
        go_simp
        refine (CO.out _ hHeld.1).mono ?_
        rintro e w9 ⟨rfl, bb⟩
        refine hK.out _ _ (keep19 hHeld bb) (fun hHeld => ?_)
        clear hK K 
        refine wpAnyH_take (i := 6) (v := ?_) rfl (by kernel_rfl) (by kernel_rfl) (by kernel_rfl) (fun _ _ _ h => h) (Or.inl ⟨by rfl, ?_⟩) (by assumption) ?_
        rotate_left
        · intro w hSw
          go_simp
          try with_reducible rfl
        simp only [Act.put, List.getElem_toArray, List.getElem_cons_zero, List.getElem_cons_succ, List.setIfInBounds_toArray, List.set_cons_zero, List.set_cons_succ]
        refine wpAnyH_take (i := 7) (v := ?_) rfl (by kernel_rfl) (by kernel_rfl) (by kernel_rfl) (fun _ _ _ h => h) (Or.inl ⟨by rfl, ?_⟩) (by assumption) ?_
        rotate_left
        · intro w hSw
          go_simp
          try with_reducible rfl
        simp only [Act.put, List.getElem_toArray, List.getElem_cons_zero, List.getElem_cons_succ, List.setIfInBounds_toArray, List.set_cons_zero, List.set_cons_succ]
        refine wpAnyH_take (i := 8) (v := ?_) rfl (by kernel_rfl) (by kernel_rfl) (by kernel_rfl) (fun _ _ _ h => h) (Or.inl ⟨by rfl, ?_⟩) (by assumption) ?_
        rotate_left
        · intro w hSw
          go_simp
          try with_reducible rfl
        simp only [Act.put, List.getElem_toArray, List.getElem_cons_zero, List.getElem_cons_succ, List.setIfInBounds_toArray, List.set_cons_zero, List.set_cons_succ]
        refine wpAnyH_take (i := 9) (v := ?_) rfl (by kernel_rfl) (by kernel_rfl) (by kernel_rfl) (fun _ _ _ h => h) (Or.inl ⟨by rfl, ?_⟩) (by assumption) ?_
        rotate_left
        · intro w hSw
          go_simp
          try with_reducible rfl
        simp only [Act.put, List.getElem_toArray, List.getElem_cons_zero, List.getElem_cons_succ, List.setIfInBounds_toArray, List.set_cons_zero, List.set_cons_succ]
        refine wpAnyH_take (i := 10) (v := ?_) rfl (by kernel_rfl) (by kernel_rfl) (by kernel_rfl) (fun _ _ _ h => h) (Or.inl ⟨by rfl, ?_⟩) (by assumption) ?_
        rotate_left
        · intro w hSw
          go_simp
          try with_reducible rfl
        simp only [Act.put, List.getElem_toArray, List.getElem_cons_zero, List.getElem_cons_succ, List.setIfInBounds_toArray, List.set_cons_zero, List.set_cons_succ]
        refine wpAnyH_ready (rs := [11]) (by kernel_rfl) (by simp) ?_
        refine AllReadyH.cons rfl (fun K hK => ?_) AllReadyH.nil
        go_simp
        refine (CP.out _).mono ?_
        rintro e w9 ⟨rfl, bb⟩
        refine hK.out _ _ (keep19 hHeld bb) (fun hHeld => ?_)
        clear hK K 
        refine wpAnyH_take (i := 12) (v := ?_) rfl (by kernel_rfl) (by kernel_rfl) (by kernel_rfl) (fun _ _ _ h => h) (Or.inl ⟨by rfl, ?_⟩) (by assumption) ?_
        rotate_left
        · intro w hSw
          go_simp
          try with_reducible rfl
        simp only [Act.put, List.getElem_toArray, List.getElem_cons_zero, List.getElem_cons_succ, List.setIfInBounds_toArray, List.set_cons_zero, List.set_cons_succ]
        refine wpAnyH_take (i := 13) (v := ?_) rfl (by kernel_rfl) (by kernel_rfl) (by kernel_rfl) (fun _ _ _ h => h) (Or.inl ⟨by rfl, ?_⟩) (by assumption) ?_
        rotate_left
        · intro w hSw
          go_simp
          try with_reducible rfl
        simp only [Act.put, List.getElem_toArray, List.getElem_cons_zero, List.getElem_cons_succ, List.setIfInBounds_toArray, List.set_cons_zero, List.set_cons_succ]
        refine wpAnyH_take (i := 14) (v := ?_) rfl (by kernel_rfl) (by kernel_rfl) (by kernel_rfl) (fun _ _ _ h => h) (Or.inl ⟨by rfl, ?_⟩) (by assumption) ?_
        rotate_left
        · intro w hSw
          go_simp
          try with_reducible rfl
        simp only [Act.put, List.getElem_toArray, List.getElem_cons_zero, List.getElem_cons_succ, List.setIfInBounds_toArray, List.set_cons_zero, List.set_cons_succ]
        refine wpAnyH_take (i := 15) (v := ?_) rfl (by kernel_rfl) (by kernel_rfl) (by kernel_rfl) (fun _ _ _ h => h) (Or.inl ⟨by rfl, ?_⟩) (by assumption) ?_
        rotate_left
        · intro w hSw
          go_simp
          try with_reducible rfl
        simp only [Act.put, List.getElem_toArray, List.getElem_cons_zero, List.getElem_cons_succ, List.setIfInBounds_toArray, List.set_cons_zero, List.set_cons_succ]
        refine wpAnyH_take (i := 16) (v := ?_) rfl (by kernel_rfl) (by kernel_rfl) (by kernel_rfl) (fun _ _ _ h => h) (Or.inl ⟨by rfl, ?_⟩) (by assumption) ?_
        rotate_left
        · intro w hSw
          go_simp
          try with_reducible rfl
        simp only [Act.put, List.getElem_toArray, List.getElem_cons_zero, List.getElem_cons_succ, List.setIfInBounds_toArray, List.set_cons_zero, List.set_cons_succ]
        refine wpAnyH_take (i := 18) (v := ?_) rfl (by kernel_rfl) (by kernel_rfl) (by kernel_rfl) (fun _ _ _ h => h) (Or.inl ⟨by rfl, ?_⟩) (by assumption) ?_
        rotate_left
        · intro w hSw
          go_simp
          try with_reducible rfl
        simp only [Act.put, List.getElem_toArray, List.getElem_cons_zero, List.getElem_cons_succ, List.setIfInBounds_toArray, List.set_cons_zero, List.set_cons_succ]
        refine wpAnyH_ready (rs := [17]) (by kernel_rfl) (by simp) ?_
        refine AllReadyH.cons rfl (fun K hK => ?_) AllReadyH.nil
        go_simp
        refine (CL1.out _).mono ?_
        rintro e w9 ⟨rfl, bb⟩
        refine hK.out _ _ (keep19 hHeld bb) (fun hHeld => ?_)
        clear hK K 
        refine wpAnyH_take (i := 19) (v := ?_) rfl (by kernel_rfl) (by kernel_rfl) (by kernel_rfl) (fun _ _ _ h => h) (Or.inl ⟨by rfl, ?_⟩) (by assumption) ?_
        rotate_left
        · intro w hSw
          go_simp
          try with_reducible rfl
        simp only [Act.put, List.getElem_toArray, List.getElem_cons_zero, List.getElem_cons_succ, List.setIfInBounds_toArray, List.set_cons_zero, List.set_cons_succ]
        refine wpAnyH_take (i := 20) (v := ?_) rfl (by kernel_rfl) (by kernel_rfl) (by kernel_rfl) (fun _ _ _ h => h) (Or.inl ⟨by rfl, ?_⟩) (by assumption) ?_
        rotate_left
        · intro w hSw
          go_simp
          try with_reducible rfl
        simp only [Act.put, List.getElem_toArray, List.getElem_cons_zero, List.getElem_cons_succ, List.setIfInBounds_toArray, List.set_cons_zero, List.set_cons_succ]
        refine wpAnyH_take (i := 21) (v := ?_) rfl (by kernel_rfl) (by kernel_rfl) (by kernel_rfl) (fun _ _ _ h => h) (Or.inl ⟨by rfl, ?_⟩) (by assumption) ?_
        rotate_left
        · intro w hSw
          go_simp
          try with_reducible rfl
        simp only [Act.put, List.getElem_toArray, List.getElem_cons_zero, List.getElem_cons_succ, List.setIfInBounds_toArray, List.set_cons_zero, List.set_cons_succ]
        refine wpAnyH_take (i := 22) (v := ?_) rfl (by kernel_rfl) (by kernel_rfl) (by kernel_rfl) (fun _ _ _ h => h) (Or.inl ⟨by rfl, ?_⟩) (by assumption) ?_
        rotate_left
        · intro w hSw
          go_simp
          try with_reducible rfl
        simp only [Act.put, List.getElem_toArray, List.getElem_cons_zero, List.getElem_cons_succ, List.setIfInBounds_toArray, List.set_cons_zero, List.set_cons_succ]
        refine wpAnyH_take (i := 23) (v := ?_) rfl (by kernel_rfl) (by kernel_rfl) (by kernel_rfl) (fun _ _ _ h => h) (Or.inl ⟨by rfl, ?_⟩) (by assumption) ?_
        rotate_left
        · intro w hSw
          go_simp
          try with_reducible rfl
        simp only [Act.put, List.getElem_toArray, List.getElem_cons_zero, List.getElem_cons_succ, List.setIfInBounds_toArray, List.set_cons_zero, List.set_cons_succ]
        refine wpAnyH_take (i := 25) (v := ?_) rfl (by kernel_rfl) (by kernel_rfl) (by kernel_rfl) (fun _ _ _ h => h) (Or.inl ⟨by rfl, ?_⟩) (by assumption) ?_
        rotate_left
        · intro w hSw
          go_simp
          try with_reducible rfl
        simp only [Act.put, List.getElem_toArray, List.getElem_cons_zero, List.getElem_cons_succ, List.setIfInBounds_toArray, List.set_cons_zero, List.set_cons_succ]
        refine wpAnyH_ready (rs := [24]) (by kernel_rfl) (by simp) ?_
        refine AllReadyH.cons rfl (fun K hK => ?_) AllReadyH.nil
        go_simp
        refine (CL2.out _).mono ?_
        rintro e w9 ⟨rfl, bb⟩
        refine hK.out _ _ (keep19 hHeld bb) (fun hHeld => ?_)
        clear hK K 
        refine wpAnyH_take (i := 26) (v := ?_) rfl (by kernel_rfl) (by kernel_rfl) (by kernel_rfl) (fun _ _ _ h => h) (Or.inl ⟨by rfl, ?_⟩) (by assumption) ?_
        rotate_left
        · intro w hSw
          go_simp
          try with_reducible rfl
        simp only [Act.put, List.getElem_toArray, List.getElem_cons_zero, List.getElem_cons_succ, List.setIfInBounds_toArray, List.set_cons_zero, List.set_cons_succ]
        refine wpAnyH_take (i := 27) (v := ?_) rfl (by kernel_rfl) (by kernel_rfl) (by kernel_rfl) (fun _ _ _ h => h) (Or.inl ⟨by rfl, ?_⟩) (by assumption) ?_
        rotate_left
        · intro w hSw
          go_simp
          try with_reducible rfl
        simp only [Act.put, List.getElem_toArray, List.getElem_cons_zero, List.getElem_cons_succ, List.setIfInBounds_toArray, List.set_cons_zero, List.set_cons_succ]
        refine wpAnyH_take (i := 28) (v := ?_) rfl (by kernel_rfl) (by kernel_rfl) (by kernel_rfl) (fun _ _ _ h => h) (Or.inl ⟨by rfl, ?_⟩) (by assumption) ?_
        rotate_left
        · intro w hSw
          go_simp
          try with_reducible rfl
        simp only [Act.put, List.getElem_toArray, List.getElem_cons_zero, List.getElem_cons_succ, List.setIfInBounds_toArray, List.set_cons_zero, List.set_cons_succ]
        refine wpAnyH_done (by kernel_rfl) ?_ _
        go_wp2_with fail
        go_ret
        exact ⟨rfl, bthen FV.out (bthen B8.out hHeld.1)⟩
    · skip
      have hmx : (len : Int) + 1 ≤ 9223372036854775807 := by omega
      have HS := aside S
      go_wp2_with (at_builtin; refine wpList_plain rfl fun K hK => op_append_rows (V := V) _ _ rfl nA nR (.slice a8 nA c8) (.slice a9 nR c9) A R (by rfl) (by rfl) HS.out.oA HS.out.oR (by rw [HS.out.hlen]; exact hz) HS.out.below ?_; intro v8' w4 own4 b4; refine hK _ _ ?_; refine Hid.out ?_)
      refine aside ?_
      clear hlt
      have hlA := S.lA
      have hlR := S.lR
      have hsum := S.sums
      have hkM : KeysOk (A ++ R) := by
        intro y hy
        rcases List.mem_append.1 hy with hy | hy
        · exact S.kA y hy
        · exact S.kR y hy
      have hnl : nA ≤ len := by have := S.hlen; omega
      rw [S.hlen] at own4
      obtain ⟨aM, cM, rfl, hM1, hM2, -⟩ := own_slice own4
      have hlM : (A ++ R).length = len := by rw [List.length_append, hlA, hlR]; exact S.hlen
      clear HS S
      obtain ⟨aT, cT, sl1, sl2, parts⟩ := slice_parts own4 hnl hkM
      have bw4 := bthen FV.out b4
      have K3 : Hid (∀ X, Below w4.heap.size w4 X → Calls Tryd.prog 12 #[.slice aM len cM] X fun r w' => r = .returned (allL (A ++ R)) ∧ Below X.heap.size X w') := fun X b => (all_parts (X0 := X) hlM hnl (LL.out.keep (bthen bw4 b)) (parts X b)).2.2
      have K2 : Hid (∀ X, Below w4.heap.size w4 X → Calls Tryd.prog 12 #[.slice aM nA cM] X fun r w' => r = .returned (allL ((A ++ R).take nA)) ∧ Below X.heap.size X w') := fun X b => (all_parts (X0 := X) hlM hnl (LL.out.keep (bthen bw4 b)) (parts X b)).2.1
      have K1 : Hid (∀ X, Below w4.heap.size w4 X → Calls Tryd.prog 12 #[.slice aT (len - nA) cT] X fun r w' => r = .returned (allL ((A ++ R).drop nA)) ∧ Below X.heap.size X w') := fun X b => (all_parts (X0 := X) hlM hnl (LL.out.keep (bthen bw4 b)) (parts X b)).1
      rw [List.take_left' hlA] at K2
      rw [List.drop_left' hlA] at K1
      have ex0 : allI f0 (A ++ R) = allI f0 (firstE T len) := allI_eq (by rw [List.map_append, List.sum_append]; exact hsum f0)
      have ex1 : allI f1 (A ++ R) = allI f1 (firstE T len) := allI_eq (by rw [List.map_append, List.sum_append]; exact hsum f1)
      have ey0 := allI_app f0 A R
      have ey1 := allI_app f1 A R
      have CD := aside (fun W => add_at (ey0.trans (ex0.trans hx0.out)) (ey1.trans (ex1.trans hx1.out)) W)
      have em0 : allI f0 (A ++ R ++ [e]) = IntKind.u64.wrap (x0 + f0 e) := by rw [allI_snoc, ex0, hx0.out]
      have em1 : allI f1 (A ++ R ++ [e]) = IntKind.u64.wrap (x1 + f1 e) := by rw [allI_snoc, ex1, hx1.out]
      unfold allL at K3 K2 K1
      rw [ex0, ex1, hx0.out, hx1.out] at K3
      have EM0 := aside em0
      have EM1 := aside em1
      have O4 := aside own4
      have HKM := aside hkM
      have HLM := aside hlM
      have B4 := aside b4
      have S0 : Hid (Below w4.heap.size w4 w4.drew ∧ w4.drew.cell? ⟨i7, 0, none⟩ = some (.int .u64 x0) ∧ w4.drew.cell? ⟨i7, 1, none⟩ = some (.int .u64 x1)) := ⟨(Below.refl _ w4).drew, (pair (blk_on aV.out b4)).1, (pair (blk_on aV.out b4)).2.1⟩
      have nn := fun (X : World) => sum_ne_no (a := x0) (b := x1) rfl rfl X
      clear em0 em1 ex0 ex1 ey0 ey1 hsum own4 hkM hlM b4 parts bw4 hM1 hM2 hlA hlR
      generalize allI f0 A = y0 at *
      generalize allI f1 A = y1 at *
      generalize allI f0 R = z0 at *
      generalize allI f1 R = z1 at *
      go_wp2_with fail
      refine wp_region_held_drew (S := fun X => Below w4.heap.size w4 X ∧ X.cell? ⟨i7, 0, none⟩ = some (.int .u64 x0) ∧ X.cell? ⟨i7, 1, none⟩ = some (.int .u64 x1)) (by kernel_rfl) S0.out (fun hHeld => ?_)
      clear S0
      refine wpAnyH_take (i := 0) (v := ?_) rfl (by kernel_rfl) (by kernel_rfl) (by kernel_rfl) (fun _ _ _ h => h) (Or.inl ⟨by rfl, ?_⟩) (by assumption) ?_
      rotate_left
      · intro w hSw
        go_simp
        try with_reducible rfl
      simp only [Act.put, List.getElem_toArray, List.getElem_cons_zero, List.setIfInBounds_toArray, List.set_cons_zero, List.set_cons_succ]
      refine wpAnyH_take (i := 2) (v := ?_) rfl (by kernel_rfl) (by kernel_rfl) (by kernel_rfl) (fun _ _ _ h => h) (Or.inl ⟨by rfl, ?_⟩) (by assumption) ?_
      rotate_left
      · intro w hSw
        go_simp
        try with_reducible rfl
      simp only [Act.put, List.getElem_toArray, List.getElem_cons_zero, List.getElem_cons_succ, List.setIfInBounds_toArray, List.set_cons_zero, List.set_cons_succ]
      refine wpAnyH_ready (rs := [1]) (by kernel_rfl) (by simp) ?_
      refine AllReadyH.cons rfl (fun K hK => ?_) AllReadyH.nil
      go_simp
      refine (K3.out _ hHeld.1).mono ?_
      rintro e w9 ⟨rfl, bb⟩
      refine hK.out _ _ (keep15 hHeld bb) (fun hHeld => ?_)
      clear hK K 
      refine wpAnyH_take (i := 3) (v := ?_) rfl (by kernel_rfl) (by kernel_rfl) (by kernel_rfl) (fun _ _ _ h => h) (Or.inl ⟨by rfl, ?_⟩) (by assumption) ?_
      rotate_left
      · intro w hSw
        go_simp
        try with_reducible rfl
      simp only [Act.put, List.getElem_toArray, List.getElem_cons_zero, List.getElem_cons_succ, List.setIfInBounds_toArray, List.set_cons_zero, List.set_cons_succ]
      refine wpAnyH_take (i := 4) (v := ?_) rfl (by kernel_rfl) (by kernel_rfl) (by kernel_rfl) (fun _ _ _ h => h) (Or.inl ⟨by rfl, ?_⟩) (by assumption) ?_
      rotate_left
      · intro w hSw
        go_simp
        try with_reducible rfl
      simp only [Act.put, List.getElem_toArray, List.getElem_cons_zero, List.getElem_cons_succ, List.setIfInBounds_toArray, List.set_cons_zero, List.set_cons_succ]
      refine wpAnyH_take (i := 5) (v := ?_) rfl (by kernel_rfl) (by kernel_rfl) (by kernel_rfl) (fun _ _ _ h => h) (Or.inl ⟨by rfl, ?_⟩) (by assumption) ?_
      rotate_left
      · intro w hSw
        go_simp
        try with_reducible rfl
      simp only [Act.put, List.getElem_toArray, List.getElem_cons_zero, List.getElem_cons_succ, List.setIfInBounds_toArray, List.set_cons_zero, List.set_cons_succ]
      refine wpAnyH_take (i := 6) (v := ?_) rfl (by kernel_rfl) (by kernel_rfl) (by kernel_rfl) (fun _ _ _ h => h) (Or.inl ⟨by rfl, ?_⟩) (by assumption) ?_
      rotate_left
      · intro w hSw
        go_simp
        try with_reducible rfl
      simp only [Act.put, List.getElem_toArray, List.getElem_cons_zero, List.getElem_cons_succ, List.setIfInBounds_toArray, List.set_cons_zero, List.set_cons_succ]
      refine wpAnyH_take (i := 7) (v := ?_) rfl (by kernel_rfl) (by kernel_rfl) (by kernel_rfl) (fun _ _ _ h => h) (Or.inl ⟨by rfl, ?_⟩) (by assumption) ?_
      rotate_left
      · intro w hSw
        go_simp
        try with_reducible rfl
      simp only [Act.put, List.getElem_toArray, List.getElem_cons_zero, List.getElem_cons_succ, List.setIfInBounds_toArray, List.set_cons_zero, List.set_cons_succ]
      refine wpAnyH_take (i := 9) (v := ?_) rfl (by kernel_rfl) (by kernel_rfl) (by kernel_rfl) (fun _ _ _ h => h) (Or.inl ⟨by rfl, ?_⟩) (by assumption) ?_
      rotate_left
      · intro w hSw
        go_simp
        try with_reducible rfl
      simp only [Act.put, List.getElem_toArray, List.getElem_cons_zero, List.getElem_cons_succ, List.setIfInBounds_toArray, List.set_cons_zero, List.set_cons_succ]
      refine wpAnyH_take (i := 10) (v := ?_) rfl (by kernel_rfl) (by kernel_rfl) (by kernel_rfl) (fun _ _ _ h => h) (Or.inl ⟨by rfl, ?_⟩) (by assumption) ?_
      rotate_left
      · intro w hSw
        go_simp
        try with_reducible rfl
      simp only [Act.put, List.getElem_toArray, List.getElem_cons_zero, List.getElem_cons_succ, List.setIfInBounds_toArray, List.set_cons_zero, List.set_cons_succ]
      refine wpAnyH_take (i := 11) (v := ?_) rfl (by kernel_rfl) (by kernel_rfl) (by kernel_rfl) (fun _ _ _ h => h) (Or.inl ⟨by rfl, ?_⟩) (by assumption) ?_
      rotate_left
      · intro w hSw
        go_simp
        try with_reducible rfl
      simp only [Act.put, List.getElem_toArray, List.getElem_cons_zero, List.getElem_cons_succ, List.setIfInBounds_toArray, List.set_cons_zero, List.set_cons_succ]
      refine wpAnyH_take (i := 14) (v := ?_) rfl (by kernel_rfl) (by kernel_rfl) (by kernel_rfl) (fun _ _ _ h => h) (Or.inl ⟨by rfl, ?_⟩) (by assumption) ?_
      rotate_left
      · intro w hSw
        go_simp
        try with_reducible rfl
      simp only [Act.put, List.getElem_toArray, List.getElem_cons_zero, List.getElem_cons_succ, List.setIfInBounds_toArray, List.set_cons_zero, List.set_cons_succ]
      refine wpAnyH_ready (rs := [8]) (by kernel_rfl) (by simp) ?_
      refine AllReadyH.cons rfl (fun K hK => ?_) AllReadyH.nil
      go_simp
      refine (K2.out _ hHeld.1).mono ?_
      rintro e w9 ⟨rfl, bb⟩
      refine hK.out _ _ (keep15 hHeld bb) (fun hHeld => ?_)
      clear hK K 
      refine wpAnyH_ready (rs := [12]) (by kernel_rfl) (by simp) ?_
      refine AllReadyH.cons rfl (fun K hK => ?_) AllReadyH.nil
      go_simp
      refine (K1.out _ hHeld.1).mono ?_
      rintro e w9 ⟨rfl, bb⟩
      refine hK.out _ _ (keep15 hHeld bb) (fun hHeld => ?_)
      clear hK K 
      refine wpAnyH_ready (rs := [13]) (by kernel_rfl) (by simp) ?_
      refine AllReadyH.cons rfl (fun K hK => ?_) AllReadyH.nil
      go_simp
      refine (CD.out _).mono ?_
      rintro e w9 ⟨rfl, bb⟩
      refine hK.out _ _ (keep15 hHeld bb) (fun hHeld => ?_)
      clear hK K 
      refine wpAnyH_take (i := 15) (v := ?_) rfl (by kernel_rfl) (by kernel_rfl) (by kernel_rfl) (fun _ _ _ h => h) (Or.inl ⟨by rfl, ?_⟩) (by assumption) ?_
      rotate_left
      · intro w hSw
        go_simp
        try with_reducible rfl
      simp only [Act.put, List.getElem_toArray, List.getElem_cons_zero, List.getElem_cons_succ, List.setIfInBounds_toArray, List.set_cons_zero, List.set_cons_succ]
      refine wpAnyH_take (i := 16) (v := ?_) rfl (by kernel_rfl) (by kernel_rfl) (by kernel_rfl) (fun _ _ _ h => h) (Or.inl ⟨by rfl, ?_⟩) (by assumption) ?_
      rotate_left
      · intro w hSw
        go_simp
        try with_reducible rfl
      simp only [Act.put, List.getElem_toArray, List.getElem_cons_zero, List.getElem_cons_succ, List.setIfInBounds_toArray, List.set_cons_zero, List.set_cons_succ]
      refine wpAnyH_done (by kernel_rfl) ?_ _
      have B9 := aside (bthen B4.out hHeld.1)
      have O9 := aside (own_on O4.out hHeld.1)
      clear hHeld K1 K2 K3 CD O4 B4 sl1 sl2 nn
      generalize hw0 : w9 = wa at *
      clear hw0
      obtain ⟨e0, e1, e2, e3, e4⟩ := quint (blk_on eV.out B9.out)
      have HP9 := aside (bthen FV.out B9.out)
      go_wp2_with fail
      refine (all_one (e := e) (LL.out.keep (bthen HP9.out (bnew wa (.cells #[.string e.k, .int .i64 e.c, .int .i64 e.n, .string e.v, .bool e.d] 32)))) (heap_alloc_new wa _) hk).mono ?_
      rintro r wb ⟨rfl, bb1⟩
      have Bb := aside (bthen (bthen B9.out (bnew wa (.cells #[.string e.k, .int .i64 e.c, .int .i64 e.n, .string e.v, .bool e.d] 32))) bb1)
      have Ob := aside (own_on (own_on O9.out (bnew wa (.cells #[.string e.k, .int .i64 e.c, .int .i64 e.n, .string e.v, .bool e.d] 32))) bb1)
      clear bb1 B9 O9 HP9 e0 e1 e2 e3 e4
      have CO0 : Hid (∀ W, Below w.heap.size w W → Calls Tryd.prog 10 #[.string e.k, .agg #[.int .i64 e.c, .int .i64 e.n]] W fun r w' => r = .returned (.agg #[.int .u64 (f0 e), .int .u64 (f1 e)]) ∧ Below W.heap.size W w') := fun W b => of_any e.k e.c e.n W (LL.out.keep b) (by omega)
      have or0 := aside (f0_range e)
      have or1 := aside (f1_range e)
      have HKE := aside (show KeysOk (A ++ R ++ [e]) from by
        intro y hy
        rcases List.mem_append.1 hy with hy | hy
        · exact HKM.out y hy
        · simp at hy; subst hy; exact hk)
      unfold allL
      rw [allI_one (f0_range e), allI_one (f1_range e)]
      generalize f0 e = o0 at *
      generalize f1 e = o1 at *
      have Bc := aside (bthen Bb.out (bnew wb (.cells #[.int .u64 o0, .int .u64 o1] 27)))
      have Oc := aside (own_on Ob.out (bnew wb (.cells #[.int .u64 o0, .int .u64 o1] 27)))
      have G13 := aside (heap_alloc_new wb (.cells #[.int .u64 o0, .int .u64 o1] 27))
      obtain ⟨i13, hi13⟩ : ∃ i, i = wb.heap.size := ⟨_, rfl⟩
      obtain ⟨e0, e1, e2, e3, e4⟩ := quint (blk_on eV.out Bc.out)
      rw [← hi13] at G13
      have hb13 : i13 < (wb.alloc (.cells #[.int .u64 o0, .int .u64 o1] 27)).heap.size := by rw [hi13]; simp
      have hcsz := Bc.out.size
      clear Bb Ob
      go_wp2_with (at_builtin; refine wpList_plain rfl fun K hK => op_append_ent _ _ rfl V.heap.size len (.slice aM len cM) (A ++ R) (by rfl) (Oc.out.alloc _) (wb.heap.size + 1) 1 e (by rfl) (by have := heap_alloc_new (wb.alloc (.cells #[.int .u64 o0, .int .u64 o1] 27)) (.cells #[.string e.k, .int .i64 e.c, .int .i64 e.n, .string e.v, .bool e.d] 32); simpa using this) hz (by simp; simp at hcsz; omega) ?_; intro g cap2 w6 own6 gr6; refine hK _ _ ?_; refine Hid.out ?_)
      refine aside ?_
      have B6 := aside ((Bc.out.alloc hcsz (.cells #[.string e.k, .int .i64 e.c, .int .i64 e.n, .string e.v, .bool e.d] 32)).grown gr6 (by simp; simp at hcsz; omega) (fun k hk => (Oc.out.lt k hk).1))
      have G6 := aside (sum_kept Oc.out G13.out gr6)
      have O6 := aside own6
      clear own6 gr6 Oc Bc G13 hb13 hcsz e0 e1 e2 e3 e4
      rw [← hi13]
      clear hi13
      go_wp2_with fail
      refine (all_row O6.out HKE.out (LL.out.keep (bthen FV.out B6.out))).mono ?_
      rintro r w7 ⟨rfl, b7⟩
      obtain ⟨p0, hp0⟩ : ∃ p, IntKind.u64.wrap (x0 + o0) = p := ⟨_, rfl⟩
      obtain ⟨p1, hp1⟩ : ∃ p, IntKind.u64.wrap (x1 + o1) = p := ⟨_, rfl⟩
      unfold allL
      rw [EM0.out, EM1.out, hp0, hp1]
      have B8 := aside (bthen (bthen B6.out b7) (bnew w7 (.cells #[.int .u64 p0, .int .u64 p1] 27)))
      have G8 := aside (blk_on (blk_on G6.out b7) (bnew w7 (.cells #[.int .u64 p0, .int .u64 p1] 27)))
      have N8 := aside (heap_alloc_new w7 (.cells #[.int .u64 p0, .int .u64 p1] 27))
      clear b7 B6 G6 O6 EM0 EM1
      have CP := aside (fun W => add_at hp0 hp1 W)
      have xr0 := allI_range f0 (firstE T len)
      have xr1 := allI_range f1 (firstE T len)
      rw [hx0.out] at xr0
      rw [hx1.out] at xr1
      have CL1 := aside (fun W => less_at (show IntKind.u64.wrap (p0 - o0) = x0 by rw [← hp0, IntKind.wrap_u64, IntKind.wrap_u64]; omega) (show IntKind.u64.wrap (p1 - o1) = x1 by rw [← hp1, IntKind.wrap_u64, IntKind.wrap_u64]; omega) W)
      have CL2 := aside (fun W => less_at (show IntKind.u64.wrap (p0 - x0) = o0 by have := or0.out; rw [← hp0, IntKind.wrap_u64, IntKind.wrap_u64]; omega) (show IntKind.u64.wrap (p1 - x1) = o1 by have := or1.out; rw [← hp1, IntKind.wrap_u64, IntKind.wrap_u64]; omega) W)
      clear xr0 xr1 hp0 hp1
      go_wp2_with fail
      generalize w7.alloc (.cells #[.int .u64 p0, .int .u64 p1] 27) = w8 at *
      generalize w7.heap.size = i14 at *
      have CO : Hid (∀ W, Below w8.heap.size w8 W → Calls Tryd.prog 10 #[.string e.k, .agg #[.int .i64 e.c, .int .i64 e.n]] W fun r w' => r = .returned (.agg #[.int .u64 o0, .int .u64 o1]) ∧ Below W.heap.size W w') := fun W b => CO0.out W (bthen FV.out (bthen B8.out b))
      have qs := fun (a b : Int) (X : World) => sum_same a b X
      obtain ⟨e0, e1, e2, e3, e4⟩ := quint (blk_on eV.out B8.out)
      have S1 : Hid (Below w8.heap.size w8 w8.drew ∧ w8.drew.cell? ⟨i13, 0, none⟩ = some (.int .u64 o0) ∧ w8.drew.cell? ⟨i13, 1, none⟩ = some (.int .u64 o1) ∧ w8.drew.cell? ⟨i14, 0, none⟩ = some (.int .u64 p0) ∧ w8.drew.cell? ⟨i14, 1, none⟩ = some (.int .u64 p1) ∧ w8.drew.cell? ⟨i7, 0, none⟩ = some (.int .u64 x0) ∧ w8.drew.cell? ⟨i7, 1, none⟩ = some (.int .u64 x1) ∧ w8.drew.cell? ⟨w.heap.size, 0, none⟩ = some (.string e.k) ∧ w8.drew.cell? ⟨w.heap.size, 1, none⟩ = some (.int .i64 e.c) ∧ w8.drew.cell? ⟨w.heap.size, 2, none⟩ = some (.int .i64 e.n) ∧ w8.drew.cell? ⟨w.heap.size, 3, none⟩ = some (.string e.v) ∧ w8.drew.cell? ⟨w.heap.size, 4, none⟩ = some (.bool e.d)) := ⟨(Below.refl _ w8).drew, (pair G8.out).1, (pair G8.out).2.1, (pair N8.out).1, (pair N8.out).2.1, (pair (blk_on aV.out B8.out)).1, (pair (blk_on aV.out B8.out)).2.1, e0, e1, e2, e3, e4⟩
      clear e0 e1 e2 e3 e4 CO0
      refine wp_region_held_drew (S := fun X => Below w8.heap.size w8 X ∧ X.cell? ⟨i13, 0, none⟩ = some (.int .u64 o0) ∧ X.cell? ⟨i13, 1, none⟩ = some (.int .u64 o1) ∧ X.cell? ⟨i14, 0, none⟩ = some (.int .u64 p0) ∧ X.cell? ⟨i14, 1, none⟩ = some (.int .u64 p1) ∧ X.cell? ⟨i7, 0, none⟩ = some (.int .u64 x0) ∧ X.cell? ⟨i7, 1, none⟩ = some (.int .u64 x1) ∧ X.cell? ⟨w.heap.size, 0, none⟩ = some (.string e.k) ∧ X.cell? ⟨w.heap.size, 1, none⟩ = some (.int .i64 e.c) ∧ X.cell? ⟨w.heap.size, 2, none⟩ = some (.int .i64 e.n) ∧ X.cell? ⟨w.heap.size, 3, none⟩ = some (.string e.v) ∧ X.cell? ⟨w.heap.size, 4, none⟩ = some (.bool e.d)) (by kernel_rfl) S1.out (fun hHeld => ?_)
      clear S1
      refine wpAnyH_take (i := 0) (v := ?_) rfl (by kernel_rfl) (by kernel_rfl) (by kernel_rfl) (fun _ _ _ h => h) (Or.inl ⟨by rfl, ?_⟩) (by assumption) ?_
      rotate_left
      · intro w hSw
        go_simp
        try with_reducible rfl
      simp only [Act.put, List.getElem_toArray, List.getElem_cons_zero, List.setIfInBounds_toArray, List.set_cons_zero, List.set_cons_succ]
      refine wpAnyH_take (i := 1) (v := ?_) rfl (by kernel_rfl) (by kernel_rfl) (by kernel_rfl) (fun _ _ _ h => h) (Or.inl ⟨by rfl, ?_⟩) (by assumption) ?_
      rotate_left
      · intro w hSw
        go_simp
        try with_reducible rfl
      simp only [Act.put, List.getElem_toArray, List.getElem_cons_zero, List.getElem_cons_succ, List.setIfInBounds_toArray, List.set_cons_zero, List.set_cons_succ]
      refine wpAnyH_take (i := 2) (v := ?_) rfl (by kernel_rfl) (by kernel_rfl) (by kernel_rfl) (fun _ _ _ h => h) (Or.inl ⟨by rfl, ?_⟩) (by assumption) ?_
      rotate_left
      · intro w hSw
        go_simp
        try with_reducible rfl
      simp only [Act.put, List.getElem_toArray, List.getElem_cons_zero, List.getElem_cons_succ, List.setIfInBounds_toArray, List.set_cons_zero, List.set_cons_succ]
      refine wpAnyH_take (i := 3) (v := ?_) rfl (by kernel_rfl) (by kernel_rfl) (by kernel_rfl) (fun _ _ _ h => h) (Or.inl ⟨by rfl, ?_⟩) (by assumption) ?_
      rotate_left
      · intro w hSw
        go_simp
        try with_reducible rfl
      simp only [Act.put, List.getElem_toArray, List.getElem_cons_zero, List.getElem_cons_succ, List.setIfInBounds_toArray, List.set_cons_zero, List.set_cons_succ]
      refine wpAnyH_take (i := 4) (v := ?_) rfl (by kernel_rfl) (by kernel_rfl) (by kernel_rfl) (fun _ _ _ h => h) (Or.inl ⟨by rfl, ?_⟩) (by assumption) ?_
      rotate_left
      · intro w hSw
        go_simp
        try with_reducible rfl
      simp only [Act.put, List.getElem_toArray, List.getElem_cons_zero, List.getElem_cons_succ, List.setIfInBounds_toArray, List.set_cons_zero, List.set_cons_succ]
      refine wpAnyH_ready (rs := [5]) (by kernel_rfl) (by simp) ?_
      refine AllReadyH.cons rfl (fun K hK => ?_) AllReadyH.nil
      go_simp
      refine (CO.out _ hHeld.1).mono ?_
      rintro e w9 ⟨rfl, bb⟩
      refine hK.out _ _ (keep19 hHeld bb) (fun hHeld => ?_)
      clear hK K 
      refine wpAnyH_take (i := 6) (v := ?_) rfl (by kernel_rfl) (by kernel_rfl) (by kernel_rfl) (fun _ _ _ h => h) (Or.inl ⟨by rfl, ?_⟩) (by assumption) ?_
      rotate_left
      · intro w hSw
        go_simp
        try with_reducible rfl
      simp only [Act.put, List.getElem_toArray, List.getElem_cons_zero, List.getElem_cons_succ, List.setIfInBounds_toArray, List.set_cons_zero, List.set_cons_succ]
      refine wpAnyH_take (i := 7) (v := ?_) rfl (by kernel_rfl) (by kernel_rfl) (by kernel_rfl) (fun _ _ _ h => h) (Or.inl ⟨by rfl, ?_⟩) (by assumption) ?_
      rotate_left
      · intro w hSw
        go_simp
        try with_reducible rfl
      simp only [Act.put, List.getElem_toArray, List.getElem_cons_zero, List.getElem_cons_succ, List.setIfInBounds_toArray, List.set_cons_zero, List.set_cons_succ]
      refine wpAnyH_take (i := 8) (v := ?_) rfl (by kernel_rfl) (by kernel_rfl) (by kernel_rfl) (fun _ _ _ h => h) (Or.inl ⟨by rfl, ?_⟩) (by assumption) ?_
      rotate_left
      · intro w hSw
        go_simp
        try with_reducible rfl
      simp only [Act.put, List.getElem_toArray, List.getElem_cons_zero, List.getElem_cons_succ, List.setIfInBounds_toArray, List.set_cons_zero, List.set_cons_succ]
      refine wpAnyH_take (i := 9) (v := ?_) rfl (by kernel_rfl) (by kernel_rfl) (by kernel_rfl) (fun _ _ _ h => h) (Or.inl ⟨by rfl, ?_⟩) (by assumption) ?_
      rotate_left
      · intro w hSw
        go_simp
        try with_reducible rfl
      simp only [Act.put, List.getElem_toArray, List.getElem_cons_zero, List.getElem_cons_succ, List.setIfInBounds_toArray, List.set_cons_zero, List.set_cons_succ]
      refine wpAnyH_take (i := 10) (v := ?_) rfl (by kernel_rfl) (by kernel_rfl) (by kernel_rfl) (fun _ _ _ h => h) (Or.inl ⟨by rfl, ?_⟩) (by assumption) ?_
      rotate_left
      · intro w hSw
        go_simp
        try with_reducible rfl
      simp only [Act.put, List.getElem_toArray, List.getElem_cons_zero, List.getElem_cons_succ, List.setIfInBounds_toArray, List.set_cons_zero, List.set_cons_succ]
      refine wpAnyH_ready (rs := [11]) (by kernel_rfl) (by simp) ?_
      refine AllReadyH.cons rfl (fun K hK => ?_) AllReadyH.nil
      go_simp
      refine (CP.out _).mono ?_
      rintro e w9 ⟨rfl, bb⟩
      refine hK.out _ _ (keep19 hHeld bb) (fun hHeld => ?_)
      clear hK K 
      refine wpAnyH_take (i := 12) (v := ?_) rfl (by kernel_rfl) (by kernel_rfl) (by kernel_rfl) (fun _ _ _ h => h) (Or.inl ⟨by rfl, ?_⟩) (by assumption) ?_
      rotate_left
      · intro w hSw
        go_simp
        try with_reducible rfl
      simp only [Act.put, List.getElem_toArray, List.getElem_cons_zero, List.getElem_cons_succ, List.setIfInBounds_toArray, List.set_cons_zero, List.set_cons_succ]
      refine wpAnyH_take (i := 13) (v := ?_) rfl (by kernel_rfl) (by kernel_rfl) (by kernel_rfl) (fun _ _ _ h => h) (Or.inl ⟨by rfl, ?_⟩) (by assumption) ?_
      rotate_left
      · intro w hSw
        go_simp
        try with_reducible rfl
      simp only [Act.put, List.getElem_toArray, List.getElem_cons_zero, List.getElem_cons_succ, List.setIfInBounds_toArray, List.set_cons_zero, List.set_cons_succ]
      refine wpAnyH_take (i := 14) (v := ?_) rfl (by kernel_rfl) (by kernel_rfl) (by kernel_rfl) (fun _ _ _ h => h) (Or.inl ⟨by rfl, ?_⟩) (by assumption) ?_
      rotate_left
      · intro w hSw
        go_simp
        try with_reducible rfl
      simp only [Act.put, List.getElem_toArray, List.getElem_cons_zero, List.getElem_cons_succ, List.setIfInBounds_toArray, List.set_cons_zero, List.set_cons_succ]
      refine wpAnyH_take (i := 15) (v := ?_) rfl (by kernel_rfl) (by kernel_rfl) (by kernel_rfl) (fun _ _ _ h => h) (Or.inl ⟨by rfl, ?_⟩) (by assumption) ?_
      rotate_left
      · intro w hSw
        go_simp
        try with_reducible rfl
      simp only [Act.put, List.getElem_toArray, List.getElem_cons_zero, List.getElem_cons_succ, List.setIfInBounds_toArray, List.set_cons_zero, List.set_cons_succ]
      refine wpAnyH_take (i := 16) (v := ?_) rfl (by kernel_rfl) (by kernel_rfl) (by kernel_rfl) (fun _ _ _ h => h) (Or.inl ⟨by rfl, ?_⟩) (by assumption) ?_
      rotate_left
      · intro w hSw
        go_simp
        try with_reducible rfl
      simp only [Act.put, List.getElem_toArray, List.getElem_cons_zero, List.getElem_cons_succ, List.setIfInBounds_toArray, List.set_cons_zero, List.set_cons_succ]
      refine wpAnyH_take (i := 18) (v := ?_) rfl (by kernel_rfl) (by kernel_rfl) (by kernel_rfl) (fun _ _ _ h => h) (Or.inl ⟨by rfl, ?_⟩) (by assumption) ?_
      rotate_left
      · intro w hSw
        go_simp
        try with_reducible rfl
      simp only [Act.put, List.getElem_toArray, List.getElem_cons_zero, List.getElem_cons_succ, List.setIfInBounds_toArray, List.set_cons_zero, List.set_cons_succ]
      refine wpAnyH_ready (rs := [17]) (by kernel_rfl) (by simp) ?_
      refine AllReadyH.cons rfl (fun K hK => ?_) AllReadyH.nil
      go_simp
      refine (CL1.out _).mono ?_
      rintro e w9 ⟨rfl, bb⟩
      refine hK.out _ _ (keep19 hHeld bb) (fun hHeld => ?_)
      clear hK K 
      refine wpAnyH_take (i := 19) (v := ?_) rfl (by kernel_rfl) (by kernel_rfl) (by kernel_rfl) (fun _ _ _ h => h) (Or.inl ⟨by rfl, ?_⟩) (by assumption) ?_
      rotate_left
      · intro w hSw
        go_simp
        try with_reducible rfl
      simp only [Act.put, List.getElem_toArray, List.getElem_cons_zero, List.getElem_cons_succ, List.setIfInBounds_toArray, List.set_cons_zero, List.set_cons_succ]
      refine wpAnyH_take (i := 20) (v := ?_) rfl (by kernel_rfl) (by kernel_rfl) (by kernel_rfl) (fun _ _ _ h => h) (Or.inl ⟨by rfl, ?_⟩) (by assumption) ?_
      rotate_left
      · intro w hSw
        go_simp
        try with_reducible rfl
      simp only [Act.put, List.getElem_toArray, List.getElem_cons_zero, List.getElem_cons_succ, List.setIfInBounds_toArray, List.set_cons_zero, List.set_cons_succ]
      refine wpAnyH_take (i := 21) (v := ?_) rfl (by kernel_rfl) (by kernel_rfl) (by kernel_rfl) (fun _ _ _ h => h) (Or.inl ⟨by rfl, ?_⟩) (by assumption) ?_
      rotate_left
      · intro w hSw
        go_simp
        try with_reducible rfl
      simp only [Act.put, List.getElem_toArray, List.getElem_cons_zero, List.getElem_cons_succ, List.setIfInBounds_toArray, List.set_cons_zero, List.set_cons_succ]
      refine wpAnyH_take (i := 22) (v := ?_) rfl (by kernel_rfl) (by kernel_rfl) (by kernel_rfl) (fun _ _ _ h => h) (Or.inl ⟨by rfl, ?_⟩) (by assumption) ?_
      rotate_left
      · intro w hSw
        go_simp
        try with_reducible rfl
      simp only [Act.put, List.getElem_toArray, List.getElem_cons_zero, List.getElem_cons_succ, List.setIfInBounds_toArray, List.set_cons_zero, List.set_cons_succ]
      refine wpAnyH_take (i := 23) (v := ?_) rfl (by kernel_rfl) (by kernel_rfl) (by kernel_rfl) (fun _ _ _ h => h) (Or.inl ⟨by rfl, ?_⟩) (by assumption) ?_
      rotate_left
      · intro w hSw
        go_simp
        try with_reducible rfl
      simp only [Act.put, List.getElem_toArray, List.getElem_cons_zero, List.getElem_cons_succ, List.setIfInBounds_toArray, List.set_cons_zero, List.set_cons_succ]
      refine wpAnyH_take (i := 25) (v := ?_) rfl (by kernel_rfl) (by kernel_rfl) (by kernel_rfl) (fun _ _ _ h => h) (Or.inl ⟨by rfl, ?_⟩) (by assumption) ?_
      rotate_left
      · intro w hSw
        go_simp
        try with_reducible rfl
      simp only [Act.put, List.getElem_toArray, List.getElem_cons_zero, List.getElem_cons_succ, List.setIfInBounds_toArray, List.set_cons_zero, List.set_cons_succ]
      refine wpAnyH_ready (rs := [24]) (by kernel_rfl) (by simp) ?_
      refine AllReadyH.cons rfl (fun K hK => ?_) AllReadyH.nil
      go_simp
      refine (CL2.out _).mono ?_
      rintro e w9 ⟨rfl, bb⟩
      refine hK.out _ _ (keep19 hHeld bb) (fun hHeld => ?_)
      clear hK K 
      refine wpAnyH_take (i := 26) (v := ?_) rfl (by kernel_rfl) (by kernel_rfl) (by kernel_rfl) (fun _ _ _ h => h) (Or.inl ⟨by rfl, ?_⟩) (by assumption) ?_
      rotate_left
      · intro w hSw
        go_simp
        try with_reducible rfl
      simp only [Act.put, List.getElem_toArray, List.getElem_cons_zero, List.getElem_cons_succ, List.setIfInBounds_toArray, List.set_cons_zero, List.set_cons_succ]
      refine wpAnyH_take (i := 27) (v := ?_) rfl (by kernel_rfl) (by kernel_rfl) (by kernel_rfl) (fun _ _ _ h => h) (Or.inl ⟨by rfl, ?_⟩) (by assumption) ?_
      rotate_left
      · intro w hSw
        go_simp
        try with_reducible rfl
      simp only [Act.put, List.getElem_toArray, List.getElem_cons_zero, List.getElem_cons_succ, List.setIfInBounds_toArray, List.set_cons_zero, List.set_cons_succ]
      refine wpAnyH_take (i := 28) (v := ?_) rfl (by kernel_rfl) (by kernel_rfl) (by kernel_rfl) (fun _ _ _ h => h) (Or.inl ⟨by rfl, ?_⟩) (by assumption) ?_
      rotate_left
      · intro w hSw
        go_simp
        try with_reducible rfl
      simp only [Act.put, List.getElem_toArray, List.getElem_cons_zero, List.getElem_cons_succ, List.setIfInBounds_toArray, List.set_cons_zero, List.set_cons_succ]
      refine wpAnyH_done (by kernel_rfl) ?_ _
      go_wp2_with fail
      go_ret
      exact ⟨rfl, bthen FV.out (bthen B8.out hHeld.1)⟩

end Go.Proofs.YtlieljnaecbmdaaDoor

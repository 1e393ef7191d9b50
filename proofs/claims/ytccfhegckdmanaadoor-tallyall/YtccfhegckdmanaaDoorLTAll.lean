/-
  The law TallyAll, walked.
-/
import Derived.Test.YtccfhegckdmanaaDoorTaRow
namespace Go.Proofs.YtccfhegckdmanaaDoor
open Go.RowKit
set_option linter.unusedVariables false

/-- An entry with another value, dead where it was not. -/
def twE (e : En) : En := ⟨e.k, e.c, e.n, ⟨#[97, 110, 111, 116, 104, 101, 114]⟩, !e.d⟩

/-- The last j entries of N, the last one first, each with another value. -/
def revE (M : List En) (N j : Nat) : List En := (List.range j).map fun i => twE (nthE M (N - 1 - i))

theorem revE_succ (M : List En) (N j : Nat) : revE M N (j + 1) = revE M N j ++ [twE (nthE M (N - 1 - j))] := by simp [revE, List.range_succ]

theorem revE_all (M : List En) (N : Nat) (h : M.length = N) : revE M N N = M.reverse.map twE := by
  apply List.ext_getElem?
  intro i
  by_cases hi : i < N
  · rw [revE, List.getElem?_map, List.getElem?_range hi, List.getElem?_map, List.getElem?_reverse (by omega), h, nthE_get (by omega)]
    rfl
  · rw [List.getElem?_eq_none (by simp [revE]; omega), List.getElem?_eq_none (by simp; omega)]

theorem sum_rev (l : List Int) : l.reverse.sum = l.sum := by
  induction l with
  | nil => rfl
  | cons x t ih =>
    rw [List.reverse_cons, List.sum_append, ih]
    simp
    omega

theorem revE_same {f : En → Int} (hf : ∀ e, f (twE e) = f e) (M : List En) (N : Nat) (h : M.length = N) : allI f (revE M N N) = allI f M := by
  refine allI_eq ?_
  rw [revE_all M N h, List.map_map, show (f ∘ twE) = f from funext hf, List.map_reverse, sum_rev]

theorem revE_keys {M : List En} {N j : Nat} (h : KeysOk M) (hl : M.length = N) (hj : j ≤ N) : KeysOk (revE M N j) := by
  intro e he
  simp only [revE, List.mem_map, List.mem_range] at he
  obtain ⟨i, hi, rfl⟩ := he
  exact h (nthE M (N - 1 - i)) (List.mem_of_getElem? (nthE_get (l := M) (i := N - 1 - i) (by omega)))

/-- What is kept in the loop: the turned entries in a row of their own, what they come to in block i7. -/
structure AS5 (V wr : World) (i7 : Nat) (v6 : Value) (j : Nat) (R : List En) : Prop where
  below : Below V.heap.size V wr
  row : wr.ownsRow V.heap.size 32 5 v6 j (entCells R)
  low : V.heap.size ≤ i7
  ne : v6.ownBlock ≠ some i7
  S : wr.heap[i7]? = some (.cells #[.int .i64 (j : Int), .int .u64 (allI f0 R), .int .u64 (allI f1 R)] 28)

def ARel (V : World) (M : List En) (N i7 : Nat) (v6 i : Value) (wr : World) : Prop :=
  ∃ (j c6 : Nat) (a6 : Option Addr), v6 = .slice a6 j c6 ∧ i = .int .i64 (j : Int) ∧ j ≤ N ∧ AS5 V wr i7 v6 j (revE M N j)

theorem as5_start (V : World) (M : List En) (N : Nat) : AS5 V ((V.alloc (.cells #[] 32)).alloc (.cells #[.int .i64 0, .int .u64 0, .int .u64 0] 28)) (V.heap.size + 1) (.slice (some ⟨V.heap.size, 0, none⟩) 0 0) 0 (revE M N 0) := by
  refine ⟨bthen (bnew V _) (bnew _ _), own_on (own_empty V V.heap.size (Nat.le_refl _)) (bnew _ _), by omega, by simp [Value.ownBlock], ?_⟩
  have := heap_alloc_new (V.alloc (.cells #[] 32)) (.cells #[.int .i64 0, .int .u64 0, .int .u64 0] 28)
  rw [show (V.alloc (.cells #[] 32)).heap.size = V.heap.size + 1 from by simp] at this
  rw [this, show revE M N 0 = [] from rfl, allI_nil, allI_nil]
  rfl

/-- Three cells of a block set. -/
def set3w (W : World) (g : Nat) (u v t : Value) : World := ((W.setCell ⟨g, 0, none⟩ u).setCell ⟨g, 1, none⟩ v).setCell ⟨g, 2, none⟩ t

theorem set3w_same {W : World} {g : Nat} {x y z : Value} {T : TypeId} (h : W.heap[g]? = some (.cells #[x, y, z] T (0, 0))) (u v t : Value) : (set3w W g u v t).heap[g]? = some (.cells #[u, v, t] T (0, 0)) := by
  have s1 := heap_setCell_same W g 0 _ _ u h
  have s2 := heap_setCell_same _ g 1 _ _ v s1
  exact heap_setCell_same _ g 2 _ _ t s2

theorem set3w_below {w W : World} {g : Nat} (h : Below w.heap.size w W) (hg : w.heap.size ≤ g) (u v t : Value) : Below w.heap.size w (set3w W g u v t) :=
  ((h.setCell hg _).setCell hg _).setCell hg _

/-- The entry appended: what stands behind it. -/
theorem AS5.app {V wr w11 : World} {i7 j c6 g1 cc : Nat} {a6 : Option Addr} {R : List En} {t tw : En} {o o2 : Obj} (h : AS5 V wr i7 (.slice a6 j c6) j R)
    (own : w11.ownsRow V.heap.size 32 5 (.slice (some ⟨g1, 0, none⟩) (j + 1) cc) (j + 1) (entCells (R ++ [tw]))) (gr : ((wr.alloc o).alloc o2).grownBy w11 (Value.slice a6 j c6).ownBlock)
    (hat : (Value.slice a6 j c6).ownBlock = some g1 ∨ g1 = ((wr.alloc o).alloc o2).heap.size) :
    Below V.heap.size V w11 ∧ w11.heap[wr.heap.size]? = some o ∧ w11.heap[i7]? = some (.cells #[.int .i64 (j : Int), .int .u64 (allI f0 R), .int .u64 (allI f1 R)] 28) ∧ g1 ≠ i7 := by
  have hsz := h.below.size
  have hi7 : i7 < wr.heap.size := (Array.getElem?_eq_some_iff.1 h.S).1
  refine ⟨?_, ?_, ?_, ?_⟩
  · exact (((h.below.alloc hsz o).alloc (by simp; omega) o2).grown gr (by simp; omega) (fun k hk => (h.row.lt k hk).1))
  · refine (gr.block _ (by simp; omega) (fun e => ?_)).trans (blk_on (heap_alloc_new wr o) (bnew _ o2))
    exact absurd (h.row.lt _ e.symm).2 (Nat.lt_irrefl _)
  · exact (gr.block _ (by simp; omega) (fun e => h.ne e.symm)).trans (blk_on (blk_on h.S (bnew _ o)) (bnew _ o2))
  · rcases hat with hat | hat
    · intro e; subst e; exact h.ne hat
    · simp at hat; omega

/-- The round's end. -/
theorem AS5.next {V W : World} {i7 j cc g1 : Nat} {R : List En} {tw : En} (hB : Below V.heap.size V W) (own : W.ownsRow V.heap.size 32 5 (.slice (some ⟨g1, 0, none⟩) (j + 1) cc) (j + 1) (entCells (R ++ [tw]))) (low : V.heap.size ≤ i7) (hne : g1 ≠ i7)
    {x y z : Value} (hS : W.heap[i7]? = some (.cells #[x, y, z] 28 (0, 0))) {s0 s1 : Int} (e0 : allI f0 (R ++ [tw]) = s0) (e1 : allI f1 (R ++ [tw]) = s1) :
    AS5 V (set3w W i7 (.int .i64 ((j : Int) + 1)) (.int .u64 s0) (.int .u64 s1)) i7 (.slice (some ⟨g1, 0, none⟩) (j + 1) cc) (j + 1) (R ++ [tw]) := by
  subst e0 e1
  have hne2 : (Value.slice (some ⟨g1, 0, none⟩) (j + 1) cc).ownBlock ≠ some i7 := by simp [Value.ownBlock]; exact hne
  refine ⟨set3w_below hB low _ _ _, ?_, low, hne2, ?_⟩
  · exact ownsRow_setCell_other (ownsRow_setCell_other (ownsRow_setCell_other own hne2 _) hne2 _) hne2 _
  · rw [set3w_same hS, Int.natCast_add]; rfl

theorem ta_keep14 {w13 X X' : World} {g9 g10 : Nat} {t : En} {o0 o1 : Int} (h : Below w13.heap.size w13 X ∧ X.cell? ⟨g9, 0, none⟩ = some (.string t.k) ∧ X.cell? ⟨g9, 1, none⟩ = some (.int .i64 t.c) ∧ X.cell? ⟨g9, 2, none⟩ = some (.int .i64 t.n) ∧ X.cell? ⟨g9, 3, none⟩ = some (.string t.v) ∧ X.cell? ⟨g9, 4, none⟩ = some (.bool t.d) ∧ X.cell? ⟨g10, 0, none⟩ = some (.int .i64 1) ∧ X.cell? ⟨g10, 1, none⟩ = some (.int .u64 o0) ∧ X.cell? ⟨g10, 2, none⟩ = some (.int .u64 o1)) (bb : Below X.heap.size X X') : Below w13.heap.size w13 X' ∧ X'.cell? ⟨g9, 0, none⟩ = some (.string t.k) ∧ X'.cell? ⟨g9, 1, none⟩ = some (.int .i64 t.c) ∧ X'.cell? ⟨g9, 2, none⟩ = some (.int .i64 t.n) ∧ X'.cell? ⟨g9, 3, none⟩ = some (.string t.v) ∧ X'.cell? ⟨g9, 4, none⟩ = some (.bool t.d) ∧ X'.cell? ⟨g10, 0, none⟩ = some (.int .i64 1) ∧ X'.cell? ⟨g10, 1, none⟩ = some (.int .u64 o0) ∧ X'.cell? ⟨g10, 2, none⟩ = some (.int .u64 o1) := by
  obtain ⟨h, h0, h1, h2, h3, h4, h5, h6, h7⟩ := h
  exact ⟨bthen h bb, cell_in h0 bb, cell_in h1 bb, cell_in h2 bb, cell_in h3 bb, cell_in h4 bb, cell_in h5 bb, cell_in h6 bb, cell_in h7 bb⟩

theorem ta_keep18 {w17 X X' : World} {i11 i7 N : Nat} {p0 p1 : Int} (h : Below w17.heap.size w17 X ∧ X.cell? ⟨i11, 0, none⟩ = some (.int .i64 (N : Int)) ∧ X.cell? ⟨i11, 1, none⟩ = some (.int .u64 p0) ∧ X.cell? ⟨i11, 2, none⟩ = some (.int .u64 p1) ∧ X.cell? ⟨i7, 0, none⟩ = some (.int .i64 (N : Int)) ∧ X.cell? ⟨i7, 1, none⟩ = some (.int .u64 p0) ∧ X.cell? ⟨i7, 2, none⟩ = some (.int .u64 p1)) (bb : Below X.heap.size X X') : Below w17.heap.size w17 X' ∧ X'.cell? ⟨i11, 0, none⟩ = some (.int .i64 (N : Int)) ∧ X'.cell? ⟨i11, 1, none⟩ = some (.int .u64 p0) ∧ X'.cell? ⟨i11, 2, none⟩ = some (.int .u64 p1) ∧ X'.cell? ⟨i7, 0, none⟩ = some (.int .i64 (N : Int)) ∧ X'.cell? ⟨i7, 1, none⟩ = some (.int .u64 p0) ∧ X'.cell? ⟨i7, 2, none⟩ = some (.int .u64 p1) := by
  obtain ⟨h, h0, h1, h2, h3, h4, h5⟩ := h
  exact ⟨bthen h bb, cell_in h0 bb, cell_in h1 bb, cell_in h2 bb, cell_in h3 bb, cell_in h4 bb, cell_in h5 bb⟩

set_option maxRecDepth 100000 in
set_option maxHeartbeats 12800000 in
theorem ltall_walk (a0 : Option Addr) (len0 cap0 : Nat) (T0 : Nat → En) (a1 : Option Addr) (len1 cap1 : Nat) (T1 : Nat → En) (w : World) (L : Lanes w)
    (h0 : EntsIn w a0 len0 cap0 T0) (fm0 : (a0 = none ∧ len0 = 0 ∧ cap0 = 0) ∨ ∃ y, a0 = some y) (h1 : EntsIn w a1 len1 cap1 T1) (fm1 : (a1 = none ∧ len1 = 0 ∧ cap1 = 0) ∨ ∃ y, a1 = some y) :
    Calls Tryd.prog 3 #[.slice a0 len0 cap0, .slice a1 len1 cap1] w fun e w' => e = .returned (.bool true) ∧ Below w.heap.size w w' := by
  have LL := aside L
  have H0 := aside h0
  have H1 := aside h1
  have F0 := aside fm0
  have F1 := aside fm1
  clear L h0 h1 fm0 fm1
  go_enter Tryd.func3, Tryd.ntmps3
  go_wp2_with fail
  refine (beyond_any a0 len0 cap0 T0 _ H0.out).mono ?_
  rintro e w1 ⟨q, rfl, hq, b1⟩
  have B1 := aside b1
  have Q0 := aside hq
  clear b1 hq
  cases q
  case true =>
    go_wp2
    go_ret
    exact ⟨rfl, B1.out⟩
  go_wp2_with fail
  refine (beyond_any a1 len1 cap1 T1 _ (H1.out.keep B1.out)).mono ?_
  rintro e w2 ⟨q, rfl, hq, b2⟩
  have B2 := aside (bthen B1.out b2)
  have Q1 := aside hq
  clear b2 hq B1
  cases q
  case true =>
    go_wp2
    go_ret
    exact ⟨rfl, B2.out⟩
  have hl0 : len0 ≤ 1073741824 := Q0.out rfl
  have hl1 : len1 ≤ 1073741824 := Q1.out rfl
  have O0 := aside (own_empty w2 w2.heap.size (Nat.le_refl _))
  have BV := aside (bnew w2 (.cells #[] 32))
  clear Q0 Q1
  go_wp2_with (at_builtin; refine wpList_plain rfl fun K hK => op_append_list (V := w2) _ _ rfl 0 (.slice (some ⟨w2.heap.size, 0, none⟩) 0 0) [] (by rfl) O0.out a0 len0 cap0 T0 (by rfl) (H0.out.keep (bthen B2.out BV.out)) F0.out (by omega) BV.out ?_; intro v4 w4 own4 b4; refine hK _ _ ?_; refine Hid.out ?_)
  refine aside ?_
  rw [Nat.zero_add, List.nil_append] at own4
  have B4 := aside b4
  have O4 := aside own4
  clear b4 O0 BV
  obtain ⟨aA, cA, rfl, -, -, -⟩ := own_slice own4
  clear own4
  go_wp2_with (at_builtin; refine wpList_plain rfl fun K hK => op_append_list (V := w2) _ _ rfl len0 (.slice aA len0 cA) (firstE T0 len0) (by rfl) O4.out a1 len1 cap1 T1 (by rfl) (H1.out.keep (bthen B2.out B4.out)) F1.out (by omega) B4.out ?_; intro v5 w5 own5 b5; refine hK _ _ ?_; refine Hid.out ?_)
  refine aside ?_
  have B25 := aside b5
  have B5 := aside (bthen B2.out b5)
  have O5 := aside own5
  clear b5 O4 B4 B2 F0 F1
  obtain ⟨aM, cM, rfl, -, -, -⟩ := own_slice own5
  clear own5
  have kM := aside (keys_both (keys_first H0.out) (keys_first H1.out))
  obtain ⟨x0, hx0⟩ : ∃ x, allI f0 (firstE T0 len0) = x := ⟨_, rfl⟩
  obtain ⟨x1, hx1⟩ : ∃ x, allI f1 (firstE T0 len0) = x := ⟨_, rfl⟩
  obtain ⟨y0, hy0⟩ : ∃ x, allI f0 (firstE T1 len1) = x := ⟨_, rfl⟩
  obtain ⟨y1, hy1⟩ : ∃ x, allI f1 (firstE T1 len1) = x := ⟨_, rfl⟩
  obtain ⟨p0, hp0⟩ : ∃ x, allI f0 (firstE T0 len0 ++ firstE T1 len1) = x := ⟨_, rfl⟩
  obtain ⟨p1, hp1⟩ : ∃ x, allI f1 (firstE T0 len0 ++ firstE T1 len1) = x := ⟨_, rfl⟩
  have ea0 := allI_app f0 (firstE T0 len0) (firstE T1 len1)
  have ea1 := allI_app f1 (firstE T0 len0) (firstE T1 len1)
  have rx0 := allI_range f0 (firstE T0 len0)
  have rx1 := allI_range f1 (firstE T0 len0)
  have ry0 := allI_range f0 (firstE T1 len1)
  have ry1 := allI_range f1 (firstE T1 len1)
  rw [hx0] at rx0 ea0
  rw [hx1] at rx1 ea1
  rw [hy0] at ry0 ea0
  rw [hy1] at ry1 ea1
  rw [hp0] at ea0
  rw [hp1] at ea1
  have hlM : (firstE T0 len0 ++ firstE T1 len1).length = len0 + len1 := by simp [firstE]
  have hCX := aside (fun (X : World) (b : Below w.heap.size w X) => tall_any a0 len0 cap0 T0 X (LL.out.keep b) (H0.out.keep b))
  have hCY := aside (fun (X : World) (b : Below w.heap.size w X) => tall_any a1 len1 cap1 T1 X (LL.out.keep b) (H1.out.keep b))
  unfold talT at hCX hCY
  rw [hx0, hx1] at hCX
  rw [hy0, hy1] at hCY
  have hN0 : ((len0 : Int) + (len1 : Int)) = ((len0 + len1 : Nat) : Int) := by omega
  have CJ := aside (fun W => join_at (show IntKind.i64.wrap ((len0 : Int) + (len1 : Int)) = ((len0 + len1 : Nat) : Int) by rw [IntKind.wrap_i64]; omega) ea0 ea1 W)
  have hNb : len0 + len1 ≤ 2147483648 := by omega
  clear hx0 hx1 hy0 hy1 ea0 ea1 rx0 rx1 ry0 ry1 H0 H1 hN0 hl0 hl1
  generalize firstE T0 len0 ++ firstE T1 len1 = M at *
  generalize len0 + len1 = N at *
  have hP0 := aside hp0
  have hP1 := aside hp1
  have hLM := aside hlM
  clear hp0 hp1 hlM
  have hM0 := aside (as5_start w5 M N)
  go_wp2_with fail
  go_loopw [6, 8] (fun v6 i wr => ARel w5 M N (w5.heap.size + 1) v6 i wr) (fun _ i _ => N - (intOf i).toNat)
  case atStart => exact ⟨0, 0, some ⟨w5.heap.size, 0, none⟩, rfl, rfl, Nat.zero_le _, hM0.out⟩
  case round =>
    clear hM0
    obtain ⟨j, c6, a6, rfl, rfl, hj, HH⟩ := hrel
    have HS := aside HH
    clear HH
    generalize hi7 : w5.heap.size + 1 = i7 at *
    clear hi7
    have hj0 : (0 : Int) ≤ (j : Int) := by omega
    have hNx : (N : Int) ≤ 2147483648 := by omega
    by_cases hlt : (j : Int) < (N : Int)
    · obtain ⟨k, hkn⟩ : ∃ k, N - 1 - j = k := ⟨_, rfl⟩
      have hrs := aside (revE_succ M N j)
      rw [hkn] at hrs
      have hkN : k < N := by omega
      have hki : (N : Int) - 1 - (j : Int) = (k : Int) := by omega
      have hk0 : (0 : Int) ≤ (k : Int) := by omega
      have hkl : (k : Int) < (N : Int) := by omega
      obtain ⟨gM, hgM⟩ : ∃ g, aM = some ⟨g, 0, none⟩ := by
        obtain ⟨a', c', hv, -, -, hform⟩ := own_slice O5.out
        injection hv with e1 e2 e3
        subst e1 e3
        rcases hform with ⟨-, h, -⟩ | ⟨g, rfl, -⟩
        · omega
        · exact ⟨g, rfl⟩
      subst hgM
      obtain ⟨c0, c1, c2, c3, c4⟩ := row_cells (own_on O5.out HS.out.below) (i := k) (by rw [hLM.out]; exact hkN)
      have hkey : (nthE M k).k.size ≤ 140737488351232 := kM.out _ (List.mem_of_getElem? (nthE_get (l := M) (i := k) (by rw [hLM.out]; exact hkN)))
      generalize nthE M k = t at *
      have en0 := allI_snoc f0 (revE M N j) (twE t)
      have en1 := allI_snoc f1 (revE M N j) (twE t)
      rw [show f0 (twE t) = of0 t.k t.c t.n from rfl] at en0
      rw [show f1 (twE t) = of1 t.k t.c t.n from rfl] at en1
      obtain ⟨o0, ho0⟩ : ∃ o, of0 t.k t.c t.n = o := ⟨_, rfl⟩
      obtain ⟨o1, ho1⟩ : ∃ o, of1 t.k t.c t.n = o := ⟨_, rfl⟩
      have CO : Hid (∀ W, Below w.heap.size w W → Calls Tryd.prog 6 #[.agg #[.string t.k, .int .i64 t.c, .int .i64 t.n, .string t.v, .bool t.d]] W fun e w' => e = .returned (.agg #[.int .i64 1, .int .u64 o0, .int .u64 o1]) ∧ Below W.heap.size W w') := fun W b => by
        rw [← ho0, ← ho1]
        exact tof_any _ _ _ _ _ W (LL.out.keep b) hkey
      have CR : Hid (∀ W, Calls Tryd.prog 7 #[.agg #[.string t.k, .int .i64 t.c, .int .i64 t.n, .string t.v, .bool t.d]] W fun e w' => e = .returned (.agg #[.int .i64 1, .int .u64 o0, .int .u64 o1]) ∧ Below W.heap.size W w') := fun W => by
        rw [← ho0, ← ho1]
        exact tofRef_any _ _ _ _ _ W hkey
      have CM : Hid (∀ W, Below w.heap.size w W → Calls Tryd.prog 8 #[.string t.k, .agg #[.int .i64 t.c, .int .i64 t.n]] W fun e w' => e = .returned (.agg #[.int .u64 o0, .int .u64 o1]) ∧ Below W.heap.size W w') := fun W b => by
        rw [← ho0, ← ho1]
        exact of_any t.k t.c t.n W (LL.out.keep b) (by omega)
      rw [ho0] at en0
      rw [ho1] at en1
      generalize hR : revE M N j = R at *
      obtain ⟨r0, hr0⟩ : ∃ o, allI f0 R = o := ⟨_, rfl⟩
      obtain ⟨r1, hr1⟩ : ∃ o, allI f1 R = o := ⟨_, rfl⟩
      rw [hr0] at en0
      rw [hr1] at en1
      obtain ⟨s0, hs0⟩ : ∃ o, IntKind.u64.wrap (r0 + o0) = o := ⟨_, rfl⟩
      obtain ⟨s1, hs1⟩ : ∃ o, IntKind.u64.wrap (r1 + o1) = o := ⟨_, rfl⟩
      rw [hs0] at en0
      rw [hs1] at en1
      have E0 := aside en0
      have E1 := aside en1
      have HR0 := aside hr0
      have HR1 := aside hr1
      have CJ1 := aside (fun W => join_at (show IntKind.i64.wrap ((j : Int) + 1) = (j : Int) + 1 by rw [IntKind.wrap_i64]; omega) hs0 hs1 W)
      clear ho0 ho1 hr0 hr1 hs0 hs1 en0 en1 hR
      have hsz := HS.out.below.size
      have HBT : Hid (((wr.alloc (.cells #[.string t.k, .int .i64 t.c, .int .i64 t.n, .string t.v, .bool t.d] 32)).alloc (.cells #[.string t.k, .int .i64 t.c, .int .i64 t.n, .string ⟨#[97, 110, 111, 116, 104, 101, 114]⟩, .bool (!t.d)] 32)).heap[wr.heap.size + 1]? = some (.cells #[.string t.k, .int .i64 t.c, .int .i64 t.n, .string ⟨#[97, 110, 111, 116, 104, 101, 114]⟩, .bool (!t.d)] 32)) := by
        have h := heap_alloc_new (wr.alloc (.cells #[.string t.k, .int .i64 t.c, .int .i64 t.n, .string t.v, .bool t.d] 32)) (.cells #[.string t.k, .int .i64 t.c, .int .i64 t.n, .string ⟨#[97, 110, 111, 116, 104, 101, 114]⟩, .bool (!t.d)] 32)
        rw [show (wr.alloc (.cells #[.string t.k, .int .i64 t.c, .int .i64 t.n, .string t.v, .bool t.d] 32)).heap.size = wr.heap.size + 1 from by simp] at h
        exact h
      go_wp2_with (at_builtin; refine wpList_plain rfl fun K hK => op_append_ent_at _ _ rfl w5.heap.size j (.slice a6 j c6) R (by rfl) ((HS.out.row.alloc (.cells #[.string t.k, .int .i64 t.c, .int .i64 t.n, .string t.v, .bool t.d] 32)).alloc (.cells #[.string t.k, .int .i64 t.c, .int .i64 t.n, .string ⟨#[97, 110, 111, 116, 104, 101, 114]⟩, .bool (!t.d)] 32)) (wr.heap.size + 1) 1 (twE t) (by rfl) HBT.out (by omega) (by simp; omega) ?_; intro g1 cc1 w11 own11 gr11 at11; refine hK _ _ ?_; refine Hid.out ?_)
      refine aside ?_
      obtain ⟨b11, G9, G7, hne⟩ := HS.out.app (t := t) own11 gr11 at11
      have B11 := aside b11
      have H9 := aside G9
      have H7 := aside G7
      have O11 := aside own11
      have LOW := aside HS.out.low
      have HNE := aside hne
      rw [HR0.out, HR1.out] at H7
      clear b11 G9 G7 own11 gr11 at11 hne HS c0 c1 c2 c3 c4 hsz HBT
      generalize wr.heap.size = g9 at *
      obtain ⟨d0, d1, d2, d3, d4⟩ := quint H9.out
      go_wp2_with fail
      refine (CO.out _ (bthen B5.out B11.out)).mono ?_
      rintro e w12 ⟨rfl, b12⟩
      have bw := bthen b12 (bnew w12 (.cells #[.int .i64 1, .int .u64 o0, .int .u64 o1] 28))
      have B13 := aside (bthen (bthen B5.out B11.out) bw)
      have B13' := aside (bthen B11.out bw)
      have H9' := aside (blk_on H9.out bw)
      have H7' := aside (blk_on H7.out bw)
      have O13 := aside (own_on O11.out bw)
      have H10 := aside (heap_alloc_new w12 (.cells #[.int .i64 1, .int .u64 o0, .int .u64 o1] 28))
      clear b12 bw d0 d1 d2 d3 d4 H9 H7 O11 B11 CO
      go_wp2_with fail
      generalize w12.alloc (.cells #[.int .i64 1, .int .u64 o0, .int .u64 o1] 28) = w13 at *
      generalize w12.heap.size = g10 at *
      have qt := tal_ne_same 1 o0 o1
      have qn := fun (W : World) => sum_ne_no (a := o0) (b := o1) rfl rfl W
      have S0 : Hid (Below w13.heap.size w13 w13.drew ∧ w13.drew.cell? ⟨g9, 0, none⟩ = some (.string t.k) ∧ w13.drew.cell? ⟨g9, 1, none⟩ = some (.int .i64 t.c) ∧ w13.drew.cell? ⟨g9, 2, none⟩ = some (.int .i64 t.n) ∧ w13.drew.cell? ⟨g9, 3, none⟩ = some (.string t.v) ∧ w13.drew.cell? ⟨g9, 4, none⟩ = some (.bool t.d) ∧ w13.drew.cell? ⟨g10, 0, none⟩ = some (.int .i64 1) ∧ w13.drew.cell? ⟨g10, 1, none⟩ = some (.int .u64 o0) ∧ w13.drew.cell? ⟨g10, 2, none⟩ = some (.int .u64 o1)) := by
        obtain ⟨d0, d1, d2, d3, d4⟩ := quint H9'.out
        obtain ⟨e0, e1, e2, -, -, -⟩ := tri H10.out
        exact ⟨(Below.refl _ w13).drew, d0, d1, d2, d3, d4, e0, e1, e2⟩
      clear H9' H10
      refine wp_region_held_drew (S := fun X => Below w13.heap.size w13 X ∧ X.cell? ⟨g9, 0, none⟩ = some (.string t.k) ∧ X.cell? ⟨g9, 1, none⟩ = some (.int .i64 t.c) ∧ X.cell? ⟨g9, 2, none⟩ = some (.int .i64 t.n) ∧ X.cell? ⟨g9, 3, none⟩ = some (.string t.v) ∧ X.cell? ⟨g9, 4, none⟩ = some (.bool t.d) ∧ X.cell? ⟨g10, 0, none⟩ = some (.int .i64 1) ∧ X.cell? ⟨g10, 1, none⟩ = some (.int .u64 o0) ∧ X.cell? ⟨g10, 2, none⟩ = some (.int .u64 o1)) (by kernel_rfl) S0.out (fun hHeld => ?_)
      clear S0
      refine wpAnyH_take (i := 0) (v := ?_) rfl (by kernel_rfl) (by kernel_rfl) (by kernel_rfl) (fun _ _ _ h => h) (Or.inl ⟨by rfl, ?_⟩) (by assumption) ?_
      rotate_left
      · intro w hSw
        go_simp
        try with_reducible rfl
      simp only [Act.put, List.getElem_toArray, List.getElem_cons_zero, List.setIfInBounds_toArray, List.set_cons_zero, List.set_cons_succ]
      refine wpAnyH_take (i := 1) (v := ?_) rfl (by kernel_rfl) (by kernel_rfl) (by kernel_rfl) (fun _ _ _ h => h) (Or.inl ⟨by rfl, ?_⟩) (by assumption) ?_
      rotate_left
      · intro w hSw
        go_simp
        try with_reducible rfl
      simp only [Act.put, List.getElem_toArray, List.getElem_cons_zero, List.getElem_cons_succ, List.setIfInBounds_toArray, List.set_cons_zero, List.set_cons_succ]
      refine wpAnyH_ready (rs := [2]) (by kernel_rfl) (by simp) ?_
      refine AllReadyH.cons rfl (fun K hK => ?_) AllReadyH.nil
      go_simp
      refine (CR.out _).mono ?_
      rintro e w9 ⟨rfl, bb⟩
      refine hK.out _ _ (ta_keep14 hHeld bb) (fun hHeld => ?_)
      clear hK K 
      refine wpAnyH_take (i := 3) (v := ?_) rfl (by kernel_rfl) (by kernel_rfl) (by kernel_rfl) (fun _ _ _ h => h) (Or.inl ⟨by rfl, ?_⟩) (by assumption) ?_
      rotate_left
      · intro w hSw
        go_simp
        try with_reducible rfl
      simp only [Act.put, List.getElem_toArray, List.getElem_cons_zero, List.getElem_cons_succ, List.setIfInBounds_toArray, List.set_cons_zero, List.set_cons_succ]
      refine wpAnyH_take (i := 4) (v := ?_) rfl (by kernel_rfl) (by kernel_rfl) (by kernel_rfl) (fun _ _ _ h => h) (Or.inl ⟨by rfl, ?_⟩) (by assumption) ?_
      rotate_left
      · intro w hSw
        go_simp
        try with_reducible rfl
      simp only [Act.put, List.getElem_toArray, List.getElem_cons_zero, List.getElem_cons_succ, List.setIfInBounds_toArray, List.set_cons_zero, List.set_cons_succ]
      refine wpAnyH_take (i := 5) (v := ?_) rfl (by kernel_rfl) (by kernel_rfl) (by kernel_rfl) (fun _ _ _ h => h) (Or.inl ⟨by rfl, ?_⟩) (by assumption) ?_
      rotate_left
      · intro w hSw
        go_simp
        try with_reducible rfl
      simp only [Act.put, List.getElem_toArray, List.getElem_cons_zero, List.getElem_cons_succ, List.setIfInBounds_toArray, List.set_cons_zero, List.set_cons_succ]
      refine wpAnyH_take (i := 6) (v := ?_) rfl (by kernel_rfl) (by kernel_rfl) (by kernel_rfl) (fun _ _ _ h => h) (Or.inl ⟨by rfl, ?_⟩) (by assumption) ?_
      rotate_left
      · intro w hSw
        go_simp
        try with_reducible rfl
      simp only [Act.put, List.getElem_toArray, List.getElem_cons_zero, List.getElem_cons_succ, List.setIfInBounds_toArray, List.set_cons_zero, List.set_cons_succ]
      refine wpAnyH_take (i := 7) (v := ?_) rfl (by kernel_rfl) (by kernel_rfl) (by kernel_rfl) (fun _ _ _ h => h) (Or.inl ⟨by rfl, ?_⟩) (by assumption) ?_
      rotate_left
      · intro w hSw
        go_simp
        try with_reducible rfl
      simp only [Act.put, List.getElem_toArray, List.getElem_cons_zero, List.getElem_cons_succ, List.setIfInBounds_toArray, List.set_cons_zero, List.set_cons_succ]
      refine wpAnyH_take (i := 8) (v := ?_) rfl (by kernel_rfl) (by kernel_rfl) (by kernel_rfl) (fun _ _ _ h => h) (Or.inl ⟨by rfl, ?_⟩) (by assumption) ?_
      rotate_left
      · intro w hSw
        go_simp
        try with_reducible rfl
      simp only [Act.put, List.getElem_toArray, List.getElem_cons_zero, List.getElem_cons_succ, List.setIfInBounds_toArray, List.set_cons_zero, List.set_cons_succ]
      refine wpAnyH_take (i := 9) (v := ?_) rfl (by kernel_rfl) (by kernel_rfl) (by kernel_rfl) (fun _ _ _ h => h) (Or.inl ⟨by rfl, ?_⟩) (by assumption) ?_
      rotate_left
      · intro w hSw
        go_simp
        try with_reducible rfl
      simp only [Act.put, List.getElem_toArray, List.getElem_cons_zero, List.getElem_cons_succ, List.setIfInBounds_toArray, List.set_cons_zero, List.set_cons_succ]
      refine wpAnyH_take (i := 10) (v := ?_) rfl (by kernel_rfl) (by kernel_rfl) (by kernel_rfl) (fun _ _ _ h => h) (Or.inl ⟨by rfl, ?_⟩) (by assumption) ?_
      rotate_left
      · intro w hSw
        go_simp
        try with_reducible rfl
      simp only [Act.put, List.getElem_toArray, List.getElem_cons_zero, List.getElem_cons_succ, List.setIfInBounds_toArray, List.set_cons_zero, List.set_cons_succ]
      refine wpAnyH_ready (rs := [11]) (by kernel_rfl) (by simp) ?_
      refine AllReadyH.cons rfl (fun K hK => ?_) AllReadyH.nil
      go_simp
      refine (CM.out _ (bthen B13.out hHeld.1)).mono ?_
      rintro e w9 ⟨rfl, bb⟩
      refine hK.out _ _ (ta_keep14 hHeld bb) (fun hHeld => ?_)
      clear hK K 
      refine wpAnyH_take (i := 12) (v := ?_) rfl (by kernel_rfl) (by kernel_rfl) (by kernel_rfl) (fun _ _ _ h => h) (Or.inl ⟨by rfl, ?_⟩) (by assumption) ?_
      rotate_left
      · intro w hSw
        go_simp
        try with_reducible rfl
      simp only [Act.put, List.getElem_toArray, List.getElem_cons_zero, List.getElem_cons_succ, List.setIfInBounds_toArray, List.set_cons_zero, List.set_cons_succ]
      refine wpAnyH_take (i := 13) (v := ?_) rfl (by kernel_rfl) (by kernel_rfl) (by kernel_rfl) (fun _ _ _ h => h) (Or.inl ⟨by rfl, ?_⟩) (by assumption) ?_
      rotate_left
      · intro w hSw
        go_simp
        try with_reducible rfl
      simp only [Act.put, List.getElem_toArray, List.getElem_cons_zero, List.getElem_cons_succ, List.setIfInBounds_toArray, List.set_cons_zero, List.set_cons_succ]
      refine wpAnyH_done (by kernel_rfl) ?_ _
      have H7a := aside (blk_on H7'.out hHeld.1)
      have O14 := aside (own_on O13.out hHeld.1)
      have B14 := aside (bthen B13'.out hHeld.1)
      obtain ⟨-, -, -, -, -, -, e0, e1, e2⟩ := hHeld
      obtain ⟨q0, q1, q2, -, -, -⟩ := tri H7a.out
      clear H7' O13 B13' B13 CR CM qt qn
      generalize hw0 : w9 = wa at *
      clear hw0
      go_wp2_with fail
      refine (CJ1.out _).mono ?_
      rintro e w16 ⟨rfl, b16⟩
      have H7b := aside (blk_on H7a.out b16)
      have NX := aside (AS5.next (bthen B14.out b16) (own_on O14.out b16) LOW.out HNE.out H7b.out E0.out E1.out)
      rw [← hrs.out] at NX
      unfold set3w at NX
      obtain ⟨y0', y1', y2', z0, z1, z2⟩ := tri H7b.out
      clear b16 H7a H7b O14 B14 e0 e1 e2 q0 q1 q2 hrs E0 E1
      go_wp2
      go_roundw
      case rel => exact ⟨j + 1, cc1, some ⟨g1, 0, none⟩, rfl, by push_cast; rfl, by omega, NX.out⟩
      case measure => simp [intOf]; omega
    · have hjl : j = N := by omega
      subst hjl
      have hT0 := revE_same (f := f0) (fun _ => rfl) M j hLM.out
      have hT1 := revE_same (f := f1) (fun _ => rfl) M j hLM.out
      have hkR := aside (revE_keys (j := j) kM.out hLM.out (Nat.le_refl _))
      have hlR : (revE M j j).length = j := by simp [revE]
      generalize revE M j j = R at *
      rw [hP0.out] at hT0
      rw [hP1.out] at hT1
      have H7 := aside HS.out.S
      rw [hT0, hT1] at H7
      have CRA : Hid (∀ X, Below wr.heap.size wr X → Calls Tryd.prog 11 #[.slice aM j cM] X fun e w' => e = .returned (.agg #[.int .i64 (j : Int), .int .u64 p0, .int .u64 p1]) ∧ Below X.heap.size X w') := fun X b => by
        have h := tallRef_row (own_on O5.out (bthen HS.out.below b)) kM.out
        rw [talLv, hLM.out, hP0.out, hP1.out] at h
        exact h
      have CA : Hid (∀ X, Below wr.heap.size wr X → Calls Tryd.prog 10 #[.slice aM j cM] X fun e w' => e = .returned (.agg #[.int .i64 (j : Int), .int .u64 p0, .int .u64 p1]) ∧ Below X.heap.size X w') := fun X b => by
        have h := tall_row (own_on O5.out (bthen HS.out.below b)) kM.out (LL.out.keep (bthen B5.out (bthen HS.out.below b)))
        rw [talLv, hLM.out, hP0.out, hP1.out] at h
        exact h
      have CTU : Hid (∀ X, Below wr.heap.size wr X → Calls Tryd.prog 10 #[.slice a6 j c6] X fun e w' => e = .returned (.agg #[.int .i64 (j : Int), .int .u64 p0, .int .u64 p1]) ∧ Below X.heap.size X w') := fun X b => by
        have h := tall_row (own_on HS.out.row b) hkR.out (LL.out.keep (bthen B5.out (bthen HS.out.below b)))
        rw [talLv, hlR, hT0, hT1] at h
        exact h
      have Bw := aside (bthen B5.out HS.out.below)
      clear HS hT0 hT1 hlR hkR
      go_wp2_with fail
      refine (CA.out _ (Below.refl _ _)).mono ?_
      rintro e w16 ⟨rfl, b16⟩
      have bw := bthen b16 (bnew w16 (.cells #[.int .i64 (j : Int), .int .u64 p0, .int .u64 p1] 28))
      have B17 := aside bw
      have H7' := aside (blk_on H7.out bw)
      have H11 := aside (heap_alloc_new w16 (.cells #[.int .i64 (j : Int), .int .u64 p0, .int .u64 p1] 28))
      clear b16 bw H7 CA
      go_wp2_with fail
      generalize w16.alloc (.cells #[.int .i64 (j : Int), .int .u64 p0, .int .u64 p1] 28) = w17 at *
      generalize w16.heap.size = i11 at *
      have CRA' := aside (fun X (b : Below w17.heap.size w17 X) => CRA.out X (bthen B17.out b))
      have CTU' := aside (fun X (b : Below w17.heap.size w17 X) => CTU.out X (bthen B17.out b))
      have CX := aside (fun X (b : Below w17.heap.size w17 X) => hCX.out X (bthen Bw.out (bthen B17.out b)))
      have CY := aside (fun X (b : Below w17.heap.size w17 X) => hCY.out X (bthen Bw.out (bthen B17.out b)))
      have qs := tal_same (j : Int) p0 p1
      have S1 : Hid (Below w17.heap.size w17 w17.drew ∧ w17.drew.cell? ⟨i11, 0, none⟩ = some (.int .i64 (j : Int)) ∧ w17.drew.cell? ⟨i11, 1, none⟩ = some (.int .u64 p0) ∧ w17.drew.cell? ⟨i11, 2, none⟩ = some (.int .u64 p1) ∧ w17.drew.cell? ⟨i7, 0, none⟩ = some (.int .i64 (j : Int)) ∧ w17.drew.cell? ⟨i7, 1, none⟩ = some (.int .u64 p0) ∧ w17.drew.cell? ⟨i7, 2, none⟩ = some (.int .u64 p1)) := by
        obtain ⟨e0, e1, e2, -, -, -⟩ := tri H11.out
        obtain ⟨d0, d1, d2, -, -, -⟩ := tri H7'.out
        exact ⟨(Below.refl _ w17).drew, e0, e1, e2, d0, d1, d2⟩
      clear H11 H7' hCX hCY CRA CTU
      refine wp_region_held_drew (S := fun X => Below w17.heap.size w17 X ∧ X.cell? ⟨i11, 0, none⟩ = some (.int .i64 (j : Int)) ∧ X.cell? ⟨i11, 1, none⟩ = some (.int .u64 p0) ∧ X.cell? ⟨i11, 2, none⟩ = some (.int .u64 p1) ∧ X.cell? ⟨i7, 0, none⟩ = some (.int .i64 (j : Int)) ∧ X.cell? ⟨i7, 1, none⟩ = some (.int .u64 p0) ∧ X.cell? ⟨i7, 2, none⟩ = some (.int .u64 p1)) (by kernel_rfl) S1.out (fun hHeld => ?_)
      clear S1
      refine wpAnyH_take (i := 0) (v := ?_) rfl (by kernel_rfl) (by kernel_rfl) (by kernel_rfl) (fun _ _ _ h => h) (Or.inl ⟨by rfl, ?_⟩) (by assumption) ?_
      rotate_left
      · intro w hSw
        go_simp
        try with_reducible rfl
      simp only [Act.put, List.getElem_toArray, List.getElem_cons_zero, List.setIfInBounds_toArray, List.set_cons_zero, List.set_cons_succ]
      refine wpAnyH_take (i := 1) (v := ?_) rfl (by kernel_rfl) (by kernel_rfl) (by kernel_rfl) (fun _ _ _ h => h) (Or.inl ⟨by rfl, ?_⟩) (by assumption) ?_
      rotate_left
      · intro w hSw
        go_simp
        try with_reducible rfl
      simp only [Act.put, List.getElem_toArray, List.getElem_cons_zero, List.getElem_cons_succ, List.setIfInBounds_toArray, List.set_cons_zero, List.set_cons_succ]
      refine wpAnyH_ready (rs := [2]) (by kernel_rfl) (by simp) ?_
      refine AllReadyH.cons rfl (fun K hK => ?_) AllReadyH.nil
      go_simp
      refine (CRA'.out _ hHeld.1).mono ?_
      rintro e w9 ⟨rfl, bb⟩
      refine hK.out _ _ (ta_keep18 hHeld bb) (fun hHeld => ?_)
      clear hK K 
      refine wpAnyH_take (i := 3) (v := ?_) rfl (by kernel_rfl) (by kernel_rfl) (by kernel_rfl) (fun _ _ _ h => h) (Or.inl ⟨by rfl, ?_⟩) (by assumption) ?_
      rotate_left
      · intro w hSw
        go_simp
        try with_reducible rfl
      simp only [Act.put, List.getElem_toArray, List.getElem_cons_zero, List.getElem_cons_succ, List.setIfInBounds_toArray, List.set_cons_zero, List.set_cons_succ]
      refine wpAnyH_take (i := 4) (v := ?_) rfl (by kernel_rfl) (by kernel_rfl) (by kernel_rfl) (fun _ _ _ h => h) (Or.inl ⟨by rfl, ?_⟩) (by assumption) ?_
      rotate_left
      · intro w hSw
        go_simp
        try with_reducible rfl
      simp only [Act.put, List.getElem_toArray, List.getElem_cons_zero, List.getElem_cons_succ, List.setIfInBounds_toArray, List.set_cons_zero, List.set_cons_succ]
      refine wpAnyH_take (i := 5) (v := ?_) rfl (by kernel_rfl) (by kernel_rfl) (by kernel_rfl) (fun _ _ _ h => h) (Or.inl ⟨by rfl, ?_⟩) (by assumption) ?_
      rotate_left
      · intro w hSw
        go_simp
        try with_reducible rfl
      simp only [Act.put, List.getElem_toArray, List.getElem_cons_zero, List.getElem_cons_succ, List.setIfInBounds_toArray, List.set_cons_zero, List.set_cons_succ]
      refine wpAnyH_take (i := 6) (v := ?_) rfl (by kernel_rfl) (by kernel_rfl) (by kernel_rfl) (fun _ _ _ h => h) (Or.inl ⟨by rfl, ?_⟩) (by assumption) ?_
      rotate_left
      · intro w hSw
        go_simp
        try with_reducible rfl
      simp only [Act.put, List.getElem_toArray, List.getElem_cons_zero, List.getElem_cons_succ, List.setIfInBounds_toArray, List.set_cons_zero, List.set_cons_succ]
      refine wpAnyH_take (i := 7) (v := ?_) rfl (by kernel_rfl) (by kernel_rfl) (by kernel_rfl) (fun _ _ _ h => h) (Or.inl ⟨by rfl, ?_⟩) (by assumption) ?_
      rotate_left
      · intro w hSw
        go_simp
        try with_reducible rfl
      simp only [Act.put, List.getElem_toArray, List.getElem_cons_zero, List.getElem_cons_succ, List.setIfInBounds_toArray, List.set_cons_zero, List.set_cons_succ]
      refine wpAnyH_take (i := 8) (v := ?_) rfl (by kernel_rfl) (by kernel_rfl) (by kernel_rfl) (fun _ _ _ h => h) (Or.inl ⟨by rfl, ?_⟩) (by assumption) ?_
      rotate_left
      · intro w hSw
        go_simp
        try with_reducible rfl
      simp only [Act.put, List.getElem_toArray, List.getElem_cons_zero, List.getElem_cons_succ, List.setIfInBounds_toArray, List.set_cons_zero, List.set_cons_succ]
      refine wpAnyH_take (i := 9) (v := ?_) rfl (by kernel_rfl) (by kernel_rfl) (by kernel_rfl) (fun _ _ _ h => h) (Or.inl ⟨by rfl, ?_⟩) (by assumption) ?_
      rotate_left
      · intro w hSw
        go_simp
        try with_reducible rfl
      simp only [Act.put, List.getElem_toArray, List.getElem_cons_zero, List.getElem_cons_succ, List.setIfInBounds_toArray, List.set_cons_zero, List.set_cons_succ]
      refine wpAnyH_take (i := 10) (v := ?_) rfl (by kernel_rfl) (by kernel_rfl) (by kernel_rfl) (fun _ _ _ h => h) (Or.inl ⟨by rfl, ?_⟩) (by assumption) ?_
      rotate_left
      · intro w hSw
        go_simp
        try with_reducible rfl
      simp only [Act.put, List.getElem_toArray, List.getElem_cons_zero, List.getElem_cons_succ, List.setIfInBounds_toArray, List.set_cons_zero, List.set_cons_succ]
      refine wpAnyH_take (i := 12) (v := ?_) rfl (by kernel_rfl) (by kernel_rfl) (by kernel_rfl) (fun _ _ _ h => h) (Or.inl ⟨by rfl, ?_⟩) (by assumption) ?_
      rotate_left
      · intro w hSw
        go_simp
        try with_reducible rfl
      simp only [Act.put, List.getElem_toArray, List.getElem_cons_zero, List.getElem_cons_succ, List.setIfInBounds_toArray, List.set_cons_zero, List.set_cons_succ]
      refine wpAnyH_ready (rs := [11]) (by kernel_rfl) (by simp) ?_
      refine AllReadyH.cons rfl (fun K hK => ?_) AllReadyH.nil
      go_simp
      refine (CTU'.out _ hHeld.1).mono ?_
      rintro e w9 ⟨rfl, bb⟩
      refine hK.out _ _ (ta_keep18 hHeld bb) (fun hHeld => ?_)
      clear hK K 
      refine wpAnyH_take (i := 13) (v := ?_) rfl (by kernel_rfl) (by kernel_rfl) (by kernel_rfl) (fun _ _ _ h => h) (Or.inl ⟨by rfl, ?_⟩) (by assumption) ?_
      rotate_left
      · intro w hSw
        go_simp
        try with_reducible rfl
      simp only [Act.put, List.getElem_toArray, List.getElem_cons_zero, List.getElem_cons_succ, List.setIfInBounds_toArray, List.set_cons_zero, List.set_cons_succ]
      refine wpAnyH_take (i := 14) (v := ?_) rfl (by kernel_rfl) (by kernel_rfl) (by kernel_rfl) (fun _ _ _ h => h) (Or.inl ⟨by rfl, ?_⟩) (by assumption) ?_
      rotate_left
      · intro w hSw
        go_simp
        try with_reducible rfl
      simp only [Act.put, List.getElem_toArray, List.getElem_cons_zero, List.getElem_cons_succ, List.setIfInBounds_toArray, List.set_cons_zero, List.set_cons_succ]
      refine wpAnyH_take (i := 15) (v := ?_) rfl (by kernel_rfl) (by kernel_rfl) (by kernel_rfl) (fun _ _ _ h => h) (Or.inl ⟨by rfl, ?_⟩) (by assumption) ?_
      rotate_left
      · intro w hSw
        go_simp
        try with_reducible rfl
      simp only [Act.put, List.getElem_toArray, List.getElem_cons_zero, List.getElem_cons_succ, List.setIfInBounds_toArray, List.set_cons_zero, List.set_cons_succ]
      refine wpAnyH_take (i := 16) (v := ?_) rfl (by kernel_rfl) (by kernel_rfl) (by kernel_rfl) (fun _ _ _ h => h) (Or.inl ⟨by rfl, ?_⟩) (by assumption) ?_
      rotate_left
      · intro w hSw
        go_simp
        try with_reducible rfl
      simp only [Act.put, List.getElem_toArray, List.getElem_cons_zero, List.getElem_cons_succ, List.setIfInBounds_toArray, List.set_cons_zero, List.set_cons_succ]
      refine wpAnyH_take (i := 18) (v := ?_) rfl (by kernel_rfl) (by kernel_rfl) (by kernel_rfl) (fun _ _ _ h => h) (Or.inl ⟨by rfl, ?_⟩) (by assumption) ?_
      rotate_left
      · intro w hSw
        go_simp
        try with_reducible rfl
      simp only [Act.put, List.getElem_toArray, List.getElem_cons_zero, List.getElem_cons_succ, List.setIfInBounds_toArray, List.set_cons_zero, List.set_cons_succ]
      refine wpAnyH_take (i := 21) (v := ?_) rfl (by kernel_rfl) (by kernel_rfl) (by kernel_rfl) (fun _ _ _ h => h) (Or.inl ⟨by rfl, ?_⟩) (by assumption) ?_
      rotate_left
      · intro w hSw
        go_simp
        try with_reducible rfl
      simp only [Act.put, List.getElem_toArray, List.getElem_cons_zero, List.getElem_cons_succ, List.setIfInBounds_toArray, List.set_cons_zero, List.set_cons_succ]
      refine wpAnyH_ready (rs := [17]) (by kernel_rfl) (by simp) ?_
      refine AllReadyH.cons rfl (fun K hK => ?_) AllReadyH.nil
      go_simp
      refine (CX.out _ hHeld.1).mono ?_
      rintro e w9 ⟨rfl, bb⟩
      refine hK.out _ _ (ta_keep18 hHeld bb) (fun hHeld => ?_)
      clear hK K 
      refine wpAnyH_ready (rs := [19]) (by kernel_rfl) (by simp) ?_
      refine AllReadyH.cons rfl (fun K hK => ?_) AllReadyH.nil
      go_simp
      refine (CY.out _ hHeld.1).mono ?_
      rintro e w9 ⟨rfl, bb⟩
      refine hK.out _ _ (ta_keep18 hHeld bb) (fun hHeld => ?_)
      clear hK K 
      refine wpAnyH_ready (rs := [20]) (by kernel_rfl) (by simp) ?_
      refine AllReadyH.cons rfl (fun K hK => ?_) AllReadyH.nil
      go_simp
      refine (CJ.out _).mono ?_
      rintro e w9 ⟨rfl, bb⟩
      refine hK.out _ _ (ta_keep18 hHeld bb) (fun hHeld => ?_)
      clear hK K 
      refine wpAnyH_take (i := 22) (v := ?_) rfl (by kernel_rfl) (by kernel_rfl) (by kernel_rfl) (fun _ _ _ h => h) (Or.inl ⟨by rfl, ?_⟩) (by assumption) ?_
      rotate_left
      · intro w hSw
        go_simp
        try with_reducible rfl
      simp only [Act.put, List.getElem_toArray, List.getElem_cons_zero, List.getElem_cons_succ, List.setIfInBounds_toArray, List.set_cons_zero, List.set_cons_succ]
      refine wpAnyH_take (i := 23) (v := ?_) rfl (by kernel_rfl) (by kernel_rfl) (by kernel_rfl) (fun _ _ _ h => h) (Or.inl ⟨by rfl, ?_⟩) (by assumption) ?_
      rotate_left
      · intro w hSw
        go_simp
        try with_reducible rfl
      simp only [Act.put, List.getElem_toArray, List.getElem_cons_zero, List.getElem_cons_succ, List.setIfInBounds_toArray, List.set_cons_zero, List.set_cons_succ]
      refine wpAnyH_take (i := 24) (v := ?_) rfl (by kernel_rfl) (by kernel_rfl) (by kernel_rfl) (fun _ _ _ h => h) (Or.inl ⟨by rfl, ?_⟩) (by assumption) ?_
      rotate_left
      · intro w hSw
        go_simp
        try with_reducible rfl
      simp only [Act.put, List.getElem_toArray, List.getElem_cons_zero, List.getElem_cons_succ, List.setIfInBounds_toArray, List.set_cons_zero, List.set_cons_succ]
      refine wpAnyH_done (by kernel_rfl) ?_ _
      go_wp2
      go_ret
      exact ⟨rfl, bthen Bw.out (bthen B17.out hHeld.1)⟩

end Go.Proofs.YtccfhegckdmanaaDoor

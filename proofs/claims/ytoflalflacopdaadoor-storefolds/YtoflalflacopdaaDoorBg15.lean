/-
  fold (E).
  Fold (E).
  A tree in memory, as a law meets it (E).
  A store in memory: its own block, its meter, its tree.
  Versions: which may be, how they compare, which is the next; the code's calls and the document's own, each as a plain function.
  Entries: which may be, which is newer, the better of two; the next version; the code's calls and the document's own.
  The law ItemOrder, walked: it returns true at any three versions.
  long, Newer and Best, the code's and the document's own, by contracts; and the plain laws of the better of two.
  Plain mathematics of ranges of keys: which may be, which are empty, which keys they hold.
  Check, the code's and the document's own: each returns the number that the plain function gives, and writes nothing that was there.
  Empty and Holds, the code's and the document's own: each returns what the plain function gives, and writes nothing that was there.
-/
import Derived.Test.YtoflalflacopdaaDoorBg12
import Derived.Test.YtoflalflacopdaaDoorBg13
import Derived.Test.YtoflalflacopdaaDoorBg14
import Derived.Test.YtoflalflacopdaaDoorBg11
import Derived.Test.YtoflalflacopdaaDoorBg2
import Derived.Test.YtoflalflacopdaaDoorBg1
import Derived.Below
import Derived.Laws.StructEq
import Derived.Test.YtoflalflacopdaaDoorProg
import Derived.WalkKit
import Derived.Laws.Cover1
import Derived.WalkSpells
import Derived.WalkLawsBesides
import Derived.KernelRfl
import Derived.Laws.IdiomStrings
namespace Go.Proofs.YtoflalflacopdaaDoor
open Go.RowKit
set_option linter.unusedVariables false
-- at seats that have 69
theorem foldE {jv : Value} {c : Option Nat} (HB : BothOkE jv c) : ∀ T : Tr En Tl, T.wt tSz ≤ 4611686018427387904 → FoldOkE jv c T
  | .nil, _ => fun w tb n i j I J root p _ _ _ _ _ h1 h2 => by simp [Tr.cnt] at h2; omega
  | .node l k v s r, hw => fun w tb n i j I J root p hI hJ ht hc hT h1 h2 => by
    have hL := foldE HB l (by simp only [Tr.wt] at hw; omega)
    have hR := foldE HB r (by simp only [Tr.wt] at hw; omega)
    have hcw := Tr.cnt_le_wt tSz (Tr.node l k v s r)
    obtain ⟨b, lp, rp, rfl, hb, hl, hr⟩ := hT
    have hcn : (Tr.node l k v s r).cnt = l.cnt + 1 + r.cnt := rfl
    by_cases g0 : i = 0 ∧ j = (Tr.node l k v s r).cnt
    · simp only [Tr.fld, Tr.fldC, if_pos g0]
      exact foldAE HB ht hc hb hl hr rfl (by rw [hI, g0.1]; rfl) (by rw [hJ, g0.2]; simp)
    · simp only [Tr.fld, Tr.fldC, if_neg g0]
      have hz : (I == 0) = true → (J == ((Tr.node l k v s r).cnt : Int)) = false := fun e => by
        rw [beq_iff_eq] at e
        rw [beq_eq_false_iff_ne]
        omega
      by_cases g1 : j ≤ l.cnt
      · simp only [if_pos g1]
        exact foldBE HB ht hc hb hl hr rfl (fun W a b d => hL W tb n i j I J root lp hI hJ a b (hl.on d) h1 g1) hz (by omega)
      · simp only [if_neg g1]
        by_cases g2 : l.cnt < i
        · simp only [if_pos g2]
          exact foldCE HB ht hc hb hl hr rfl (fun W a b d => hR W tb n (i - l.cnt - 1) (j - l.cnt - 1) _ _ root rp (by omega) (by omega) a b (hr.on d) (by omega) (by omega)) (by rw [beq_eq_false_iff_ne]; omega) (by omega) (by omega) (by rw [IntKind.wrap_i64]; omega) (by rw [IntKind.wrap_i64]; omega) (by rw [IntKind.wrap_i64]; omega) (by rw [IntKind.wrap_i64]; omega)
        · simp only [if_neg g2]
          have hsl : i < l.cnt → tSz (Tr.fld tJoin tZero l i l.cnt) ≤ l.wt tSz := fun h => Tr.fld_le tSz_le tZero l i l.cnt h (Nat.le_refl _)
          have hsr : l.cnt + 1 < j → tSz (Tr.fld tJoin tZero r 0 (j - l.cnt - 1)) ≤ r.wt tSz := fun h => Tr.fld_le tSz_le tZero r 0 _ (by omega) (by omega)
          have hj2 := tSz_le (Tr.fld tJoin tZero l i l.cnt) s
          have hw2 := hw
          simp only [Tr.wt] at hw2
          by_cases g3 : i < l.cnt
          · by_cases g4 : l.cnt + 1 < j
            · simp only [if_pos g3, if_pos g4]
              refine (foldD11E HB ht hc hb hl rfl (fun W m a b d => hL W tb m i l.cnt I _ root lp hI rfl a b (hl.on d) g3 (Nat.le_refl _)) (by have := hsl g3; omega) (fun W m a b d => hR W tb m 0 (j - l.cnt - 1) _ _ root rp rfl (by omega) a b (hr.on d) (by omega) (by omega)) (by have := hsl g3; have := hsr g4; omega) (by rw [IntKind.wrap_i64]; omega) (by rw [IntKind.wrap_i64]; omega) hz (by omega) (by omega) (by omega) (by rw [IntKind.wrap_i64]; omega) (by omega)).mono fun e w' h => ⟨h.1, ?_, h.2.2⟩
              rw [show n + (Tr.fldC l i l.cnt + 1 + (Tr.fldC r 0 (j - l.cnt - 1) + 1)) = n + Tr.fldC l i l.cnt + 1 + Tr.fldC r 0 (j - l.cnt - 1) + 1 from by omega]
              exact h.2.1
            · simp only [if_pos g3, if_neg g4]
              exact foldD10E HB ht hc hb hl rfl (fun W m a b d => hL W tb m i l.cnt I _ root lp hI rfl a b (hl.on d) g3 (Nat.le_refl _)) (by have := hsl g3; omega) hz (by omega) (by omega) (by omega) (by rw [IntKind.wrap_i64]; omega) (by omega)
          · by_cases g4 : l.cnt + 1 < j
            · simp only [if_neg g3, if_pos g4]
              refine (foldD01E HB ht hc hb hl rfl (fun W m a b d => hR W tb m 0 (j - l.cnt - 1) _ _ root rp rfl (by omega) a b (hr.on d) (by omega) (by omega)) (by have := hsr g4; omega) (by rw [IntKind.wrap_i64]; omega) (by rw [IntKind.wrap_i64]; omega) hz (by omega) (by omega) (by omega) (by rw [IntKind.wrap_i64]; omega) (by omega)).mono fun e w' h => ⟨h.1, ?_, h.2.2⟩
              rw [show n + (0 + (Tr.fldC r 0 (j - l.cnt - 1) + 1)) = n + Tr.fldC r 0 (j - l.cnt - 1) + 1 from by omega]
              exact h.2.1
            · simp only [if_neg g3, if_neg g4]
              exact foldD00E HB ht hc hb hl rfl hz (by omega) (by omega) (by omega) (by rw [IntKind.wrap_i64]; omega) (by omega)
end Go.Proofs.YtoflalflacopdaaDoor
namespace Go.Proofs.YtoflalflacopdaaDoor
open Go.RowKit
set_option linter.unusedVariables false
set_option maxHeartbeats 6400000 in
set_option maxRecDepth 100000 in
theorem foldsE {jv : Value} {c : Option Nat} (HB : BothOkE jv c) {w : World} {tb n : Nat} {p0 : Option Addr} {T : Tr En Tl} (I J : Int) (ht : TObjE w tb jv p0) (hc : CntE c n w) (hT : IsTE w p0 T) (hw : T.wt tSz ≤ 4611686018427387904) :
    Calls Tryd.prog 38 #[.pointer (some ⟨tb, 0, none⟩), .int .i64 I, .int .i64 J] w fun e w' => e = .returned (.agg #[.int .i64 (Tr.fol tJoin tZero T I J).n, .int .u64 (Tr.fol tJoin tZero T I J).a, .int .u64 (Tr.fol tJoin tZero T I J).b]) ∧ CntE c (n + Tr.folC T I J) w' ∧ Keeps (OnC c) w w' := by
  have Fo := aside (foldE HB T hw)
  have F := aside (fstE ht hc)
  have HC := aside hc
  have CL := aside (fun (W : World) (h : TObjE W tb jv p0) (g : Stay 135 w W) => lenE h (hT.on g))
  obtain ⟨c0, c1, c2, -, r0, -⟩ := tobjE F.out.tobj
  obtain ⟨I', hI'⟩ : ∃ x, max I 0 = x := ⟨_, rfl⟩
  obtain ⟨J', hJ'⟩ : ∃ x, min J (T.cnt : Int) = x := ⟨_, rfl⟩
  rw [Tr.fol_eq _ _ _ _ _ hI' hJ', Tr.folC_eq _ _ _ hI' hJ']
  have hnn : (0 : Int) ≤ (T.cnt : Int) := by omega
  have CF := aside (fun (W : World) (m : Nat) (h1 : I' < J') (h : TObjE W tb jv p0) (h2 : CntE c m W) (g : Stay 135 w W) => Fo.out W tb m I'.toNat J'.toNat I' J' p0 p0 (by omega) (by omega) h h2 (hT.on g) (by omega) (by omega))
  generalize (T.cnt : Int) = nn at *
  have HT := aside hT
  clear ht hc hT hw Fo hnn
  by_cases q0 : I' < J'
  · rw [if_pos q0, if_pos q0]
    have CF' := aside (fun W m => CF.out W m q0)
    clear CF
    generalize Tr.fld tJoin tZero T I'.toNat J'.toNat = fv at *
    by_cases q1 : I < 0
    · have e1 : I' = 0 := by omega
      by_cases q2 : nn < J
      · have e2 : J' = nn := by omega
        subst e1 e2
        clear hI' hJ'
        go_enter Tryd.func38, Tryd.ntmps38
        go_wp2_with fail
        refine (CL.out _ F.out.tobj F.out.stay).mono ?_
        rintro e w1 ⟨rfl, rfl⟩
        go_wp2_with fail
        refine (CF'.out _ _ F.out.tobj F.out.cnt F.out.stay).mono ?_
        rintro e w1 ⟨rfl, bc, kk⟩
        have G := aside (F.out.on HC.out kk bc)
        obtain ⟨s0, s1, s2, z0, z1, z2⟩ := tri G.out.res
        have E := aside (set3_end G.out HC.out fv)
        unfold set3 at E
        clear bc kk CF' CL c0 c1 c2 r0 F
        go_wp2
        exact bodyPost_ret (v := .agg #[.int .i64 fv.n, .int .u64 fv.a, .int .u64 fv.b]) (by simp [results, Tryd.results38, go_sem, s0, s1, s2]) rfl ⟨rfl, E.out.1, E.out.2⟩
      · have e2 : J' = J := by omega
        subst e1 e2
        clear hI' hJ'
        go_enter Tryd.func38, Tryd.ntmps38
        go_wp2_with fail
        refine (CL.out _ F.out.tobj F.out.stay).mono ?_
        rintro e w1 ⟨rfl, rfl⟩
        go_wp2_with fail
        refine (CF'.out _ _ F.out.tobj F.out.cnt F.out.stay).mono ?_
        rintro e w1 ⟨rfl, bc, kk⟩
        have G := aside (F.out.on HC.out kk bc)
        obtain ⟨s0, s1, s2, z0, z1, z2⟩ := tri G.out.res
        have E := aside (set3_end G.out HC.out fv)
        unfold set3 at E
        clear bc kk CF' CL c0 c1 c2 r0 F
        go_wp2
        exact bodyPost_ret (v := .agg #[.int .i64 fv.n, .int .u64 fv.a, .int .u64 fv.b]) (by simp [results, Tryd.results38, go_sem, s0, s1, s2]) rfl ⟨rfl, E.out.1, E.out.2⟩
    · have e1 : I' = I := by omega
      by_cases q2 : nn < J
      · have e2 : J' = nn := by omega
        subst e1 e2
        clear hI' hJ'
        go_enter Tryd.func38, Tryd.ntmps38
        go_wp2_with fail
        refine (CL.out _ F.out.tobj F.out.stay).mono ?_
        rintro e w1 ⟨rfl, rfl⟩
        go_wp2_with fail
        refine (CF'.out _ _ F.out.tobj F.out.cnt F.out.stay).mono ?_
        rintro e w1 ⟨rfl, bc, kk⟩
        have G := aside (F.out.on HC.out kk bc)
        obtain ⟨s0, s1, s2, z0, z1, z2⟩ := tri G.out.res
        have E := aside (set3_end G.out HC.out fv)
        unfold set3 at E
        clear bc kk CF' CL c0 c1 c2 r0 F
        go_wp2
        exact bodyPost_ret (v := .agg #[.int .i64 fv.n, .int .u64 fv.a, .int .u64 fv.b]) (by simp [results, Tryd.results38, go_sem, s0, s1, s2]) rfl ⟨rfl, E.out.1, E.out.2⟩
      · have e2 : J' = J := by omega
        subst e1 e2
        clear hI' hJ'
        go_enter Tryd.func38, Tryd.ntmps38
        go_wp2_with fail
        refine (CL.out _ F.out.tobj F.out.stay).mono ?_
        rintro e w1 ⟨rfl, rfl⟩
        go_wp2_with fail
        refine (CF'.out _ _ F.out.tobj F.out.cnt F.out.stay).mono ?_
        rintro e w1 ⟨rfl, bc, kk⟩
        have G := aside (F.out.on HC.out kk bc)
        obtain ⟨s0, s1, s2, z0, z1, z2⟩ := tri G.out.res
        have E := aside (set3_end G.out HC.out fv)
        unfold set3 at E
        clear bc kk CF' CL c0 c1 c2 r0 F
        go_wp2
        exact bodyPost_ret (v := .agg #[.int .i64 fv.n, .int .u64 fv.a, .int .u64 fv.b]) (by simp [results, Tryd.results38, go_sem, s0, s1, s2]) rfl ⟨rfl, E.out.1, E.out.2⟩
  · rw [if_neg q0, if_neg q0]
    clear CF
    by_cases q1 : I < 0
    · have e1 : I' = 0 := by omega
      by_cases q2 : nn < J
      · have e2 : J' = nn := by omega
        subst e1 e2
        clear hI' hJ'
        go_enter Tryd.func38, Tryd.ntmps38
        go_wp2_with fail
        refine (CL.out _ F.out.tobj F.out.stay).mono ?_
        rintro e w1 ⟨rfl, rfl⟩
        go_wp2
        exact bodyPost_ret (v := .agg #[.int .i64 0, .int .u64 0, .int .u64 0]) (by simp [results, Tryd.results38, go_sem]) rfl ⟨rfl, HC.out.alloc _, (Keeps.refl _ w).alloc _⟩
      · have e2 : J' = J := by omega
        subst e1 e2
        clear hI' hJ'
        go_enter Tryd.func38, Tryd.ntmps38
        go_wp2_with fail
        refine (CL.out _ F.out.tobj F.out.stay).mono ?_
        rintro e w1 ⟨rfl, rfl⟩
        go_wp2
        exact bodyPost_ret (v := .agg #[.int .i64 0, .int .u64 0, .int .u64 0]) (by simp [results, Tryd.results38, go_sem]) rfl ⟨rfl, HC.out.alloc _, (Keeps.refl _ w).alloc _⟩
    · have e1 : I' = I := by omega
      by_cases q2 : nn < J
      · have e2 : J' = nn := by omega
        subst e1 e2
        clear hI' hJ'
        go_enter Tryd.func38, Tryd.ntmps38
        go_wp2_with fail
        refine (CL.out _ F.out.tobj F.out.stay).mono ?_
        rintro e w1 ⟨rfl, rfl⟩
        go_wp2
        exact bodyPost_ret (v := .agg #[.int .i64 0, .int .u64 0, .int .u64 0]) (by simp [results, Tryd.results38, go_sem]) rfl ⟨rfl, HC.out.alloc _, (Keeps.refl _ w).alloc _⟩
      · have e2 : J' = J := by omega
        subst e1 e2
        clear hI' hJ'
        go_enter Tryd.func38, Tryd.ntmps38
        go_wp2_with fail
        refine (CL.out _ F.out.tobj F.out.stay).mono ?_
        rintro e w1 ⟨rfl, rfl⟩
        go_wp2
        exact bodyPost_ret (v := .agg #[.int .i64 0, .int .u64 0, .int .u64 0]) (by simp [results, Tryd.results38, go_sem]) rfl ⟨rfl, HC.out.alloc _, (Keeps.refl _ w).alloc _⟩
end Go.Proofs.YtoflalflacopdaaDoor
namespace Go.Proofs.YtoflalflacopdaaDoor
open Go.RowKit
set_option linter.unusedVariables false
/-- The tree in the block tb holds T. -/
def TreeE (W : World) (tb : Nat) (jv : Value) (T : Tr En Tl) : Prop := ∃ p, TObjE W tb jv p ∧ IsTE W p T
theorem TreeE.keep {S : Nat → Prop} {W W' : World} {tb : Nat} {jv : Value} {T : Tr En Tl} (h : TreeE W tb jv T) (kk : Keeps S W W') (ht : ¬ S tb) (hS : ∀ i cs, W.heap[i]? = some (.cells cs 135 (0, 0)) → ¬ S i) : TreeE W' tb jv T := by
  obtain ⟨p, h1, h2⟩ := h
  exact ⟨p, blk_keep h1 kk ht, h2.on ((Stay.refl _ _).keeps kk hS)⟩
theorem TreeE.below {W W' : World} {tb : Nat} {jv : Value} {T : Tr En Tl} (h : TreeE W tb jv T) (b : Below W.heap.size W W') : TreeE W' tb jv T := by
  obtain ⟨p, h1, h2⟩ := h
  exact ⟨p, blk_on h1 b, h2.on (fun _ _ e => blk_on e b)⟩
theorem TreeE.onC {W W' : World} {tb n : Nat} {jv : Value} {T : Tr En Tl} {c : Option Nat} (h : TreeE W tb jv T) (hc : CntE c n W) (kk : Keeps (OnC c) W W') : TreeE W' tb jv T := by
  obtain ⟨p, h1, h2⟩ := h
  exact ⟨p, h1.onC hc kk, h2.on ((Stay.refl _ _).onE hc kk (by decide))⟩
theorem ynewE (fn : Fn) (first cap : Array Value) (w : World) :
    Calls Tryd.prog 91 #[.agg #[.int .i64 0, .int .u64 0, .int .u64 0], .func fn first cap] w fun e w' => ∃ tb, e = .returned (.pointer (some ⟨tb, 0, none⟩)) ∧ TreeE w' tb (.func fn first cap) .nil ∧ Below w.heap.size w w' ∧ w.heap.size ≤ tb :=
  (newE fn first cap w).mono fun e w' ⟨tb, h1, h2, h3, h4⟩ => ⟨tb, h1, ⟨none, h2, rfl⟩, h3, h4⟩
theorem yputE (k : ByteArray) (v : En) (s : Tl) {jv : Value} {c : Option Nat} {W : World} {tb n m : Nat} {T : Tr En Tl} (h : TreeE W tb jv T) (HB : BothOkE jv c) (hc : CntE c n W) (g : Gd tSz T m) (hm : m + 1 + tSz s ≤ 281474976710655) :
    Calls Tryd.prog 67 #[.pointer (some ⟨tb, 0, none⟩), .string k, .agg #[.string v.k, .int .i64 v.c, .int .i64 v.n, .string v.v, .bool v.d], .agg #[.int .i64 s.n, .int .u64 s.a, .int .u64 s.b]] W fun e w' => e = .returned (.tuple #[.agg #[.string ((Tr.found k T).val eNone).k, .int .i64 ((Tr.found k T).val eNone).c, .int .i64 ((Tr.found k T).val eNone).n, .string ((Tr.found k T).val eNone).v, .bool ((Tr.found k T).val eNone).d], .bool (!(Tr.found k T).isNil)]) ∧ TreeE w' tb jv (Tr.put k v s T) ∧ CntE c (n + Tr.putC k v s T) w' ∧ Keeps (fun x => x = tb ∨ OnC c x) W w' := by
  obtain ⟨p, h1, h2⟩ := h
  exact putE HB k v s h1 hc h2 (by have := g.ht (by omega); omega) (by have := g.cnt; omega) (g.room hm)
theorem ylenE {jv : Value} {W : World} {tb : Nat} {T : Tr En Tl} (h : TreeE W tb jv T) :
    Calls Tryd.prog 62 #[.pointer (some ⟨tb, 0, none⟩)] W fun e w' => e = .returned (.int .i64 (T.cnt : Int)) ∧ w' = W := by
  obtain ⟨p, h1, h2⟩ := h
  exact lenE h1 h2
theorem yfoldE (I J : Int) {jv : Value} {c : Option Nat} {W : World} {tb n m : Nat} {T : Tr En Tl} (h : TreeE W tb jv T) (HB : BothOkE jv c) (hc : CntE c n W) (g : Gd tSz T m) (hm : m ≤ 281474976710655) :
    Calls Tryd.prog 38 #[.pointer (some ⟨tb, 0, none⟩), .int .i64 I, .int .i64 J] W fun e w' => e = .returned (.agg #[.int .i64 (Tr.fol tJoin tZero T I J).n, .int .u64 (Tr.fol tJoin tZero T I J).a, .int .u64 (Tr.fol tJoin tZero T I J).b]) ∧ CntE c (n + Tr.folC T I J) w' ∧ Keeps (OnC c) W w' := by
  obtain ⟨p, h1, h2⟩ := h
  exact foldsE HB I J h1 hc h2 (by have := g.wt; omega)
theorem ygetE (k : ByteArray) {jv : Value} {W : World} {tb m : Nat} {T : Tr En Tl} (h : TreeE W tb jv T) (g : Gd tSz T m) (hm : m ≤ 281474976710655) :
    Calls Tryd.prog 34 #[.pointer (some ⟨tb, 0, none⟩), .string k] W fun e w' => e = .returned (.tuple #[.agg #[.string ((Tr.found k T).val eNone).k, .int .i64 ((Tr.found k T).val eNone).c, .int .i64 ((Tr.found k T).val eNone).n, .string ((Tr.found k T).val eNone).v, .bool ((Tr.found k T).val eNone).d], .bool (!(Tr.found k T).isNil)]) ∧ Below W.heap.size W w' := by
  obtain ⟨p, h1, h2⟩ := h
  exact getE k h1 h2 (by have := g.ht hm; omega) (by have := g.cnt; omega)
theorem yrankE (k : ByteArray) {jv : Value} {W : World} {tb m : Nat} {T : Tr En Tl} (h : TreeE W tb jv T) (g : Gd tSz T m) (hm : m ≤ 281474976710655) :
    Calls Tryd.prog 68 #[.pointer (some ⟨tb, 0, none⟩), .string k] W fun e w' => e = .returned (.int .i64 (Tr.lower k T : Int)) ∧ Below W.heap.size W w' := by
  obtain ⟨p, h1, h2⟩ := h
  exact rankE k h1 h2 (by have := g.ht hm; omega) (by have := g.cnt; omega)
end Go.Proofs.YtoflalflacopdaaDoor
namespace Go.Proofs.YtoflalflacopdaaDoor
open Go.RowKit
set_option linter.unusedVariables false
/-- The join of the meter in the block g. -/
def jvE (g : Nat) : Value := .func (.func 92) #[.pointer (some ⟨g, 0, none⟩)] #[]
theorem bothJv (g : Nat) : BothOkE (jvE g) (some g) := bothE g
/-- The store in the block sb: its node, its clock, its tree T (in the block tb, with the meter in g that says n joins). -/
structure IsSt (w : World) (sb g tb : Nat) (nd ck : Int) (T : Tr En Tl) (n : Nat) : Prop where
  blk : w.heap[sb]? = some (.cells #[.int .i64 nd, .int .i64 ck, .pointer (some ⟨g, 0, none⟩), .pointer (some ⟨tb, 0, none⟩)] 89 (0, 0))
  cnt : CntE (some g) n w
  tree : TreeE w tb (jvE g) T
/-- Which blocks a store's call may turn. -/
def Of (sb g tb : Nat) : Nat → Prop := fun x => x = sb ∨ x = tb ∨ x = g
theorem quad {w : World} {i : Nat} {a b c d : Value} {T : TypeId} (h : w.heap[i]? = some (.cells #[a, b, c, d] T (0, 0))) :
    w.cell? ⟨i, 0, none⟩ = some a ∧ w.cell? ⟨i, 1, none⟩ = some b ∧ w.cell? ⟨i, 2, none⟩ = some c ∧ w.cell? ⟨i, 3, none⟩ = some d ∧ w.frozen? ⟨i, 1, none⟩ = false :=
  ⟨by simp [World.cell?, h], by simp [World.cell?, h], by simp [World.cell?, h], by simp [World.cell?, h], frozen_of_row w i 1 _ _ h⟩
theorem IsSt.below {w w' : World} {sb g tb : Nat} {nd ck : Int} {T : Tr En Tl} {n : Nat} (h : IsSt w sb g tb nd ck T n) (b : Below w.heap.size w w') : IsSt w' sb g tb nd ck T n :=
  ⟨blk_on h.blk b, h.cnt.below b, h.tree.below b⟩
theorem IsSt.drew {w : World} {sb g tb : Nat} {nd ck : Int} {T : Tr En Tl} {n : Nat} (h : IsSt w sb g tb nd ck T n) : IsSt w.drew sb g tb nd ck T n := h.below ((Below.refl _ _).drew)
theorem IsSt.alloc {w : World} {sb g tb : Nat} {nd ck : Int} {T : Tr En Tl} {n : Nat} (h : IsSt w sb g tb nd ck T n) (o : Obj) : IsSt (w.alloc o) sb g tb nd ck T n := h.below (bnew _ _)
theorem IsSt.apart {w : World} {sb g tb : Nat} {nd ck : Int} {T : Tr En Tl} {n : Nat} (h : IsSt w sb g tb nd ck T n) : sb ≠ g ∧ sb ≠ tb ∧ tb ≠ g := by
  obtain ⟨p, ht, _⟩ := h.tree
  unfold TObjE at ht
  have h1 := h.blk
  have h2 := h.cnt g rfl
  refine ⟨?_, ?_, ?_⟩ <;> rintro rfl
  · rw [h1] at h2; simp at h2
  · rw [h1] at ht; simp at ht
  · rw [ht] at h2; simp at h2
/-- A block of another type is none of the store's. -/
theorem IsSt.not {w : World} {sb g tb : Nat} {nd ck : Int} {T : Tr En Tl} {n : Nat} (h : IsSt w sb g tb nd ck T n) {i : Nat} {cs : Array Value} {U : TypeId} (hi : w.heap[i]? = some (.cells cs U (0, 0))) (h1 : U ≠ 89) (h2 : U ≠ 140) (h3 : U ≠ 184) : ¬ Of sb g tb i := by
  obtain ⟨p, ht, _⟩ := h.tree
  unfold TObjE at ht
  rintro (rfl | rfl | rfl)
  · rw [h.blk] at hi; simp at hi; exact h1 hi.2.symm
  · rw [ht] at hi; simp at hi; exact h2 hi.2.symm
  · rw [h.cnt _ rfl] at hi; simp at hi; exact h3 hi.2.symm
theorem Lanes.apart {w : World} (L : Lanes w) {sb g tb : Nat} {nd ck : Int} {T : Tr En Tl} {n : Nat} (h : IsSt w sb g tb nd ck T n) : ¬ Of sb g tb 0 := by
  obtain ⟨p, ht, _⟩ := h.tree
  unfold TObjE at ht
  have h1 := L.c0
  rintro (e | e | e)
  · have := h.blk; rw [← e] at this; simp [World.cell?, this] at h1
  · rw [← e] at ht; simp [World.cell?, ht] at h1
  · have := h.cnt g rfl; rw [← e] at this; simp [World.cell?, this] at h1
theorem Lanes.keeps {w w' : World} (L : Lanes w) {S : Nat → Prop} (k : Keeps S w w') (hS : ¬ S 0) : Lanes w' := by
  have h0 := L.pos
  have c : ∀ {i : Nat} {v : Value}, w.cell? ⟨0, i, none⟩ = some v → w'.cell? ⟨0, i, none⟩ = some v := fun {i v} e => (k.cell (p := ⟨0, i, none⟩) h0 hS).trans e
  exact ⟨c L.c0, c L.c1, c L.c2, c L.c3, c L.c4, c L.c5⟩
theorem Lanes.drew {w : World} (L : Lanes w) : Lanes w.drew := L.keep ((Below.refl _ _).drew)
end Go.Proofs.YtoflalflacopdaaDoor
namespace Go.Proofs.YtoflalflacopdaaDoor
open Go.RowKit
theorem ret_i64 {a b : Int} (h : a = b) : Ending.returned (.int .i64 a) = .returned (.int .i64 b) := by rw [h]
/-- Two numbers. -/
def Vs.c2 (x y : Int) : Int := if y < x then 1 else if x < y then -1 else 0
/-- Two versions. -/
def Vs.cmp (a n b m : Int) : Int := if b < a then 1 else if a < b then -1 else Vs.c2 n m
/-- Whether a version may be. -/
def Vs.chk (c n : Int) : Int := if c < 1 ∨ 1099511627776 < c ∨ n < 0 ∨ 8 ≤ n then 30 else 0
/-- The next version: its numbers, and the error. -/
def Vs.nx (clock node : Int) : Int × Int × Int :=
  if node < 0 ∨ 8 ≤ node ∨ clock < 0 ∨ 1099511627776 < clock then (0, 0, 30) else if clock = 1099511627776 then (0, 0, 33) else (clock + 1, node, 0)
def Vs.nxV (r : Int × Int × Int) : Value := .tuple #[.agg #[.int .i64 r.1, .int .i64 r.2.1], .int .i64 r.2.2]
set_option maxHeartbeats 400000 in
theorem isNaN_any (x : Int) (w : World) : Calls Tryd.prog 114 #[.int .i64 x] w fun e w' => e = .returned (.bool false) ∧ w' = w := by
  go_enter Tryd.func114, Tryd.ntmps114
  go_wp2
  go_ret
  exact ⟨by simp, rfl⟩
theorem c2_lt {x y : Int} (h : x < y) : Vs.c2 x y = -1 := by unfold Vs.c2; rw [if_neg (by omega), if_pos h]
theorem c2_gt {x y : Int} (h : y < x) : Vs.c2 x y = 1 := by unfold Vs.c2; rw [if_pos h]
theorem c2_eq (x : Int) : Vs.c2 x x = 0 := by unfold Vs.c2; rw [if_neg (by omega), if_neg (by omega)]
set_option maxHeartbeats 400000 in
theorem cmpI_any (x y : Int) (w : World) : Calls Tryd.prog 95 #[.int .i64 x, .int .i64 y] w fun e w' => e = .returned (.int .i64 (Vs.c2 x y)) ∧ w' = w := by
  rcases Int.lt_trichotomy x y with h | h | h
  · go_enter Tryd.func95, Tryd.ntmps95
    go_wp2_with (go_at_call 114; refine (isNaN_any _ _).mono ?_; rintro e w1 ⟨rfl, rfl⟩)
    go_ret
    exact ⟨ret_i64 (c2_lt h).symm, rfl⟩
  · subst h
    go_enter Tryd.func95, Tryd.ntmps95
    go_wp2_with (go_at_call 114; refine (isNaN_any _ _).mono ?_; rintro e w1 ⟨rfl, rfl⟩)
    go_ret
    exact ⟨ret_i64 (c2_eq x).symm, rfl⟩
  · have h' : ¬ x < y := by omega
    go_enter Tryd.func95, Tryd.ntmps95
    go_wp2_with (go_at_call 114; refine (isNaN_any _ _).mono ?_; rintro e w1 ⟨rfl, rfl⟩)
    go_ret
    exact ⟨ret_i64 (c2_gt h).symm, rfl⟩
theorem cmpI_at {x y q : Int} (h : Vs.c2 x y = q) (w : World) : Calls Tryd.prog 95 #[.int .i64 x, .int .i64 y] w fun e w' => e = .returned (.int .i64 q) ∧ w' = w := by
  subst h; exact cmpI_any x y w
theorem cmp_lt {a b : Int} (h : a < b) (n m : Int) : Vs.cmp a n b m = -1 := by unfold Vs.cmp; rw [if_neg (by omega), if_pos h]
theorem cmp_gt {a b : Int} (h : b < a) (n m : Int) : Vs.cmp a n b m = 1 := by unfold Vs.cmp; rw [if_pos h]
theorem cmp_eq (a n m : Int) : Vs.cmp a n a m = Vs.c2 n m := by unfold Vs.cmp; rw [if_neg (by omega), if_neg (by omega)]
set_option maxHeartbeats 400000 in
theorem compare_any (a n b m : Int) (w : World) : Calls Tryd.prog 66 #[.agg #[.int .i64 a, .int .i64 n], .agg #[.int .i64 b, .int .i64 m]] w fun e w' => e = .returned (.int .i64 (Vs.cmp a n b m)) ∧ Below w.heap.size w w' := by
  rcases Int.lt_trichotomy a b with h | h | h
  · go_enter Tryd.func66, Tryd.ntmps66
    go_wp2_with (go_at_call 95; refine (cmpI_at (c2_lt h) _).mono ?_; rintro e w1 ⟨rfl, rfl⟩)
    go_ret
    exact ⟨ret_i64 (cmp_lt h n m).symm, bthen (bnew w _) (bnew _ _)⟩
  · subst h
    go_enter Tryd.func66, Tryd.ntmps66
    go_wp2_with fail
    refine (cmpI_at (c2_eq a) _).mono ?_
    rintro e w1 ⟨rfl, rfl⟩
    go_wp2_with fail
    refine (cmpI_any n m _).mono ?_
    rintro e w1 ⟨rfl, rfl⟩
    go_wp2
    go_ret
    exact ⟨ret_i64 (cmp_eq a n m).symm, bthen (bnew w _) (bnew _ _)⟩
  · go_enter Tryd.func66, Tryd.ntmps66
    go_wp2_with (go_at_call 95; refine (cmpI_at (c2_gt h) _).mono ?_; rintro e w1 ⟨rfl, rfl⟩)
    go_ret
    exact ⟨ret_i64 (cmp_gt h n m).symm, bthen (bnew w _) (bnew _ _)⟩
theorem chk_bad1 {c : Int} (n : Int) (h : c < 1) : Vs.chk c n = 30 := by unfold Vs.chk; rw [if_pos (.inl h)]
theorem chk_bad2 {c : Int} (n : Int) (h : 1099511627776 < c) : Vs.chk c n = 30 := by unfold Vs.chk; rw [if_pos (.inr (.inl h))]
theorem chk_bad3 (c : Int) {n : Int} (h : n < 0) : Vs.chk c n = 30 := by unfold Vs.chk; rw [if_pos (.inr (.inr (.inl h)))]
theorem chk_bad4 (c : Int) {n : Int} (h : 8 ≤ n) : Vs.chk c n = 30 := by unfold Vs.chk; rw [if_pos (.inr (.inr (.inr h)))]
theorem chk_ok {c n : Int} (h1 : ¬ c < 1) (h2 : ¬ 1099511627776 < c) (h3 : ¬ n < 0) (h4 : ¬ 8 ≤ n) : Vs.chk c n = 0 := by unfold Vs.chk; rw [if_neg (by omega)]
/-- Whether a number is a node's. -/
def nodeB (n : Int) : Bool := decide (0 ≤ n) && decide (n < 8)
theorem node_no1 {n : Int} (h : n < 0) : nodeB n = false := by simp [nodeB]; omega
theorem node_no2 {n : Int} (h : 8 ≤ n) : nodeB n = false := by simp [nodeB]; omega
theorem node_yes {n : Int} (h1 : ¬ n < 0) (h2 : ¬ 8 ≤ n) : nodeB n = true := by simp [nodeB]; omega
set_option maxHeartbeats 400000 in
theorem isNode_any (n : Int) (w : World) : Calls Tryd.prog 93 #[.int .i64 n] w fun e w' => e = .returned (.bool (nodeB n)) ∧ w' = w := by
  by_cases h1 : n < 0
  · have h1' : ¬ 0 ≤ n := by omega
    go_enter Tryd.func93, Tryd.ntmps93
    go_wp2
    go_ret
    exact ⟨ret_bool (by simp [nodeB]; omega), rfl⟩
  · have h1' : 0 ≤ n := by omega
    go_enter Tryd.func93, Tryd.ntmps93
    go_wp2
    go_ret
    exact ⟨ret_bool (by simp [nodeB]; omega), rfl⟩
theorem isNode_at {n : Int} {q : Bool} (h : nodeB n = q) (w : World) : Calls Tryd.prog 93 #[.int .i64 n] w fun e w' => e = .returned (.bool q) ∧ w' = w := by
  subst h; exact isNode_any n w
set_option maxHeartbeats 800000 in
theorem checkVersion_any (c n : Int) (w : World) : Calls Tryd.prog 64 #[.agg #[.int .i64 c, .int .i64 n]] w fun e w' => e = .returned (.int .i64 (Vs.chk c n)) ∧ Below w.heap.size w w' := by
  by_cases h1 : c < 1
  · go_enter Tryd.func64, Tryd.ntmps64
    go_wp2
    go_ret
    exact ⟨ret_i64 (chk_bad1 n h1).symm, bnew w _⟩
  by_cases h2 : 1099511627776 < c
  · go_enter Tryd.func64, Tryd.ntmps64
    go_wp2
    go_ret
    exact ⟨ret_i64 (chk_bad2 n h2).symm, bnew w _⟩
  by_cases h3 : n < 0
  · go_enter Tryd.func64, Tryd.ntmps64
    go_wp2_with (go_at_call 93; refine (isNode_at (node_no1 h3) _).mono ?_; rintro e w1 ⟨rfl, rfl⟩)
    go_ret
    exact ⟨ret_i64 (chk_bad3 c h3).symm, bnew w _⟩
  by_cases h4 : 8 ≤ n
  · go_enter Tryd.func64, Tryd.ntmps64
    go_wp2_with (go_at_call 93; refine (isNode_at (node_no2 h4) _).mono ?_; rintro e w1 ⟨rfl, rfl⟩)
    go_ret
    exact ⟨ret_i64 (chk_bad4 c h4).symm, bnew w _⟩
  · go_enter Tryd.func64, Tryd.ntmps64
    go_wp2_with (go_at_call 93; refine (isNode_at (node_yes h3 h4) _).mono ?_; rintro e w1 ⟨rfl, rfl⟩)
    go_ret
    exact ⟨ret_i64 (chk_ok (by omega) (by omega) (by omega) (by omega)).symm, bnew w _⟩
theorem checkVersion_at {c n q : Int} (h : Vs.chk c n = q) (w : World) : Calls Tryd.prog 64 #[.agg #[.int .i64 c, .int .i64 n]] w fun e w' => e = .returned (.int .i64 q) ∧ Below w.heap.size w w' := by
  subst h; exact checkVersion_any c n w
end Go.Proofs.YtoflalflacopdaaDoor
namespace Go.Proofs.YtoflalflacopdaaDoor
open Go.RowKit
/-- Whether it may be. -/
def En.chk (e : En) : Int :=
  if (16 : Int) < e.k.size then 20 else if Vs.chk e.c e.n ≠ 0 then 30 else if (32 : Int) < e.v.size then 31 else bif (e.d && !e.v.toList.isEmpty) then 32 else 0
theorem En.chk_key {k : ByteArray} (c n : Int) (v : ByteArray) (d : Bool) (h : (16 : Int) < k.size) : En.chk ⟨k, c, n, v, d⟩ = 20 := by simp only [En.chk]; rw [if_pos h]
theorem En.chk_ver {k : ByteArray} {c n : Int} (v : ByteArray) (d : Bool) (h : ¬ (16 : Int) < k.size) (h2 : Vs.chk c n = 30) : En.chk ⟨k, c, n, v, d⟩ = 30 := by simp only [En.chk]; rw [if_neg h, if_pos (by rw [h2]; decide)]
theorem En.chk_val {k : ByteArray} {c n : Int} {v : ByteArray} (d : Bool) (h : ¬ (16 : Int) < k.size) (h2 : Vs.chk c n = 0) (h3 : (32 : Int) < v.size) : En.chk ⟨k, c, n, v, d⟩ = 31 := by
  simp only [En.chk]; rw [if_neg h, if_neg (by rw [h2]; decide), if_pos h3]
theorem En.chk_rest {k : ByteArray} {c n : Int} {v : ByteArray} (d : Bool) (h : ¬ (16 : Int) < k.size) (h2 : Vs.chk c n = 0) (h3 : ¬ (32 : Int) < v.size) : En.chk ⟨k, c, n, v, d⟩ = bif (d && !v.toList.isEmpty) then 32 else 0 := by
  simp only [En.chk]; rw [if_neg h, if_neg (by rw [h2]; decide), if_neg h3]
theorem Vs.chk_two (c n : Int) : Vs.chk c n = 30 ∨ Vs.chk c n = 0 := by
  unfold Vs.chk; split
  · exact .inl rfl
  · exact .inr rfl
set_option maxHeartbeats 1600000 in
theorem ichk_any (k : ByteArray) (c n : Int) (v : ByteArray) (d : Bool) (w : World) :
    Calls Tryd.prog 32 #[.agg #[.string k, .int .i64 c, .int .i64 n, .string v, .bool d]] w fun e w' => e = .returned (.int .i64 (En.chk ⟨k, c, n, v, d⟩)) ∧ Below w.heap.size w w' := by
  by_cases h1 : (16 : Int) < k.size
  · go_enter Tryd.func32, Tryd.ntmps32
    go_wp2
    go_ret
    exact ⟨ret_i64 (En.chk_key c n v d h1).symm, bnew w _⟩
  rcases Vs.chk_two c n with h2 | h2
  · have H2 := aside h2
    go_enter Tryd.func32, Tryd.ntmps32
    go_wp2_with (go_at_call 64; refine (checkVersion_at H2.out _).mono ?_; rintro e w1 ⟨rfl, b1⟩)
    go_ret
    exact ⟨ret_i64 (En.chk_ver v d (by omega) H2.out).symm, bthen (bnew w _) b1⟩
  have H2 := aside h2
  clear h2
  have X := fun o => (heap_alloc_new w o)
  have HX := aside X
  clear X
  by_cases h3 : (32 : Int) < v.size
  · go_enter Tryd.func32, Tryd.ntmps32
    go_wp2_with fail
    refine (checkVersion_at H2.out _).mono ?_
    rintro e w1 ⟨rfl, b1⟩
    have c3 : w1.cell? ⟨w.heap.size, 3, none⟩ = some (.string v) := (b1.cell (by simp)).trans (by rw [cell_of_row _ w.heap.size 3 _ _ _ (HX.out _)]; rfl)
    go_wp2
    go_ret
    exact ⟨ret_i64 (En.chk_val d (by omega) H2.out (by omega)).symm, bthen (bnew w _) b1⟩
  · cases d <;> cases h5 : v.toList.isEmpty
    all_goals
      go_enter Tryd.func32, Tryd.ntmps32
      go_wp2_with fail
      refine (checkVersion_at H2.out _).mono ?_
      rintro e w1 ⟨rfl, b1⟩
      have c3 : w1.cell? ⟨w.heap.size, 3, none⟩ = some (.string v) := (b1.cell (by simp)).trans (by rw [cell_of_row _ w.heap.size 3 _ _ _ (HX.out _)]; rfl)
      first
        | have c4 : w1.cell? ⟨w.heap.size, 4, none⟩ = some (.bool true) := (b1.cell (by simp)).trans (by rw [cell_of_row _ w.heap.size 4 _ _ _ (HX.out _)]; rfl)
        | have c4 : w1.cell? ⟨w.heap.size, 4, none⟩ = some (.bool false) := (b1.cell (by simp)).trans (by rw [cell_of_row _ w.heap.size 4 _ _ _ (HX.out _)]; rfl)
      go_wp2
      go_ret
      exact ⟨ret_i64 (by rw [En.chk_rest _ (by omega) H2.out (by omega), h5]; rfl), bthen (bnew w _) b1⟩
end Go.Proofs.YtoflalflacopdaaDoor
namespace Go.Proofs.YtoflalflacopdaaDoor
open Go.RowKit
theorem compare_at {a n b m q : Int} (h : Vs.cmp a n b m = q) (w : World) : Calls Tryd.prog 66 #[.agg #[.int .i64 a, .int .i64 n], .agg #[.int .i64 b, .int .i64 m]] w fun e w' => e = .returned (.int .i64 q) ∧ Below w.heap.size w w' := by
  subst h; exact compare_any a n b m w
end Go.Proofs.YtoflalflacopdaaDoor
namespace Go.Proofs.YtoflalflacopdaaDoor
open Go.RowKit
/-- Whether a is newer than b. -/
def En.newer (a b : En) : Bool := decide (0 < Vs.cmp a.c a.n b.c b.n)
set_option maxHeartbeats 800000 in
theorem newer_any (ak : ByteArray) (ac an : Int) (av : ByteArray) (ad : Bool) (bk : ByteArray) (bc bn : Int) (bv : ByteArray) (bd : Bool) (q : Bool) (w : World) (h : En.newer ⟨ak, ac, an, av, ad⟩ ⟨bk, bc, bn, bv, bd⟩ = q) :
    Calls Tryd.prog 35 #[.agg #[.string ak, .int .i64 ac, .int .i64 an, .string av, .bool ad], .agg #[.string bk, .int .i64 bc, .int .i64 bn, .string bv, .bool bd]] w fun e w' => e = .returned (.bool q) ∧ Below w.heap.size w w' := by
  obtain ⟨x, hx⟩ : ∃ x, Vs.cmp ac an bc bn = x := ⟨_, rfl⟩
  have H := aside h
  have C := aside (fun w => compare_at hx w)
  have HX := aside hx
  clear h hx
  go_enter Tryd.func35, Tryd.ntmps35
  go_wp2_with fail
  refine (C.out _).mono ?_
  rintro e w1 ⟨rfl, b1⟩
  have b0 := bthen (bthen (bnew w _) (bnew _ _)) b1
  clear b1
  go_wp2
  go_ret
  refine ⟨ret_bool ?_, b0⟩
  rw [← H.out, ← HX.out]; rfl
end Go.Proofs.YtoflalflacopdaaDoor
namespace Go.Proofs.YtoflalflacopdaaDoor
open Go.RowKit
/-- A range: its bounds, and whether it is open. -/
structure Rg where
  lo : ByteArray
  hi : ByteArray
  op : Bool
namespace Rg
/-- As a value of the program. -/
def val (r : Rg) : Value := .agg #[.string r.lo, .string r.hi, .bool r.op]
/-- The number that Check gives. -/
def chk (r : Rg) : Int :=
  if 16 < (r.lo.size : Int) ∨ 16 < (r.hi.size : Int) then 20
  else if (r.op && !r.hi.toList.isEmpty) || (!r.op && (!Op.bytesLess r.lo.toList r.hi.toList && !(r.lo.toList == r.hi.toList))) then 21 else 0
/-- May it be? -/
def may (r : Rg) : Bool := chk r == 0
/-- Is it empty, or may it not be? -/
def emp (r : Rg) : Bool := !r.may || (!r.op && (r.lo.toList == r.hi.toList))
/-- Does it hold a key? -/
def has (r : Rg) (k : ByteArray) : Bool := r.may && decide ((k.size : Int) ≤ 16) && !Op.bytesLess k.toList r.lo.toList && (r.op || Op.bytesLess k.toList r.hi.toList)
/-- The higher one of two texts. -/
def mx (a b : ByteArray) : ByteArray := bif Op.bytesLess a.toList b.toList then b else a
/-- What two ranges meet in, if they were to meet. -/
def both (a b : Rg) : Rg := ⟨mx a.lo b.lo, bif a.op || (!b.op && Op.bytesLess b.hi.toList a.hi.toList) then b.hi else a.hi, bif a.op || (!b.op && Op.bytesLess b.hi.toList a.hi.toList) then b.op else a.op⟩
/-- What two ranges meet in. -/
def meet (a b : Rg) : Option Rg := if a.emp || b.emp || (both a b).emp then none else some (both a b)
end Rg
end Go.Proofs.YtoflalflacopdaaDoor
namespace Go.Proofs.YtoflalflacopdaaDoor
open Go.RowKit
theorem chk_shut {lo hi : ByteArray} (h1 : (lo.size : Int) ≤ 16) (h2 : (hi.size : Int) ≤ 16) :
    Rg.chk ⟨lo, hi, false⟩ = bif (!Op.bytesLess lo.toList hi.toList && !(lo.toList == hi.toList)) then 21 else 0 := by
  unfold Rg.chk; rw [if_neg (not_or.2 ⟨Int.not_lt.2 h1, Int.not_lt.2 h2⟩)]
  cases Op.bytesLess lo.toList hi.toList <;> cases (lo.toList == hi.toList) <;> rfl
theorem chk_open {lo hi : ByteArray} (h1 : (lo.size : Int) ≤ 16) (h2 : (hi.size : Int) ≤ 16) :
    Rg.chk ⟨lo, hi, true⟩ = bif hi.toList.isEmpty then 0 else 21 := by
  unfold Rg.chk; rw [if_neg (not_or.2 ⟨Int.not_lt.2 h1, Int.not_lt.2 h2⟩)]
  cases hi.toList.isEmpty <;> rfl
set_option maxHeartbeats 1600000 in
theorem check_any (lo hi : ByteArray) (op : Bool) (w : World) :
    Calls Tryd.prog 11 #[.agg #[.string lo, .string hi, .bool op]] w fun e w' => e = .returned (.int .i64 (Rg.chk ⟨lo, hi, op⟩)) ∧ Below w.heap.size w w' := by
  by_cases h1 : (16 : Int) < lo.size
  · go_enter Tryd.func11, Tryd.ntmps11
    go_wp2
    go_ret
    exact ⟨ret_i64 (by simp [Rg.chk, h1]), (Below.refl _ w).alloc (Nat.le_refl _) _⟩
  · by_cases h2 : (16 : Int) < hi.size
    · go_enter Tryd.func11, Tryd.ntmps11
      go_wp2
      go_ret
      exact ⟨ret_i64 (by simp [Rg.chk, h2]), (Below.refl _ w).alloc (Nat.le_refl _) _⟩
    · cases op
      · cases h4 : Op.bytesLess lo.toList hi.toList <;> cases h5 : (lo.toList == hi.toList)
        all_goals
          go_enter Tryd.func11, Tryd.ntmps11
          go_wp2
          go_ret
          exact ⟨ret_i64 (by rw [chk_shut h1 h2, h4, h5]; rfl), (Below.refl _ w).alloc (Nat.le_refl _) _⟩
      · cases h3 : hi.toList.isEmpty
        all_goals
          go_enter Tryd.func11, Tryd.ntmps11
          go_wp2
          go_ret
          exact ⟨ret_i64 (by rw [chk_open h1 h2, h3]; rfl), (Below.refl _ w).alloc (Nat.le_refl _) _⟩
set_option maxHeartbeats 1600000 in
theorem mayBe_any (lo hi : ByteArray) (op : Bool) (w : World) :
    Calls Tryd.prog 88 #[.agg #[.string lo, .string hi, .bool op]] w fun e w' => e = .returned (.bool (Rg.may ⟨lo, hi, op⟩)) ∧ Below w.heap.size w w' := by
  go_enter Tryd.func88, Tryd.ntmps88
  go_wp2_with (go_at_call 11; refine (check_any _ _ _ _).mono ?_; rintro e w1 ⟨rfl, b1⟩)
  go_ret
  exact ⟨ret_bool rfl, bthen (bnew w _) b1⟩
end Go.Proofs.YtoflalflacopdaaDoor
namespace Go.Proofs.YtoflalflacopdaaDoor
open Go.RowKit
/-- What lies in a box that was laid last stays there. -/
theorem box3 {w w1 : World} {a b c : Value} {t : TypeId} (h : Below (w.alloc (.cells #[a, b, c] t)).heap.size (w.alloc (.cells #[a, b, c] t)) w1) :
    w1.cell? ⟨w.heap.size, 0, none⟩ = some a ∧ w1.cell? ⟨w.heap.size, 1, none⟩ = some b ∧ w1.cell? ⟨w.heap.size, 2, none⟩ = some c := by
  have e : ∀ j, (w.alloc (.cells #[a, b, c] t)).cell? ⟨w.heap.size, j, none⟩ = #[a, b, c][j]? := fun j => World.cell?_alloc_mark w #[a, b, c] t (0, 0) j
  refine ⟨?_, ?_, ?_⟩
  · rw [h.cell (p := ⟨w.heap.size, 0, none⟩) (by simp), e]; rfl
  · rw [h.cell (p := ⟨w.heap.size, 1, none⟩) (by simp), e]; rfl
  · rw [h.cell (p := ⟨w.heap.size, 2, none⟩) (by simp), e]; rfl
theorem mayBe_at {lo hi : ByteArray} {op m : Bool} (h : Rg.may ⟨lo, hi, op⟩ = m) (w : World) :
    Calls Tryd.prog 88 #[.agg #[.string lo, .string hi, .bool op]] w fun e w' => e = .returned (.bool m) ∧ Below w.heap.size w w' := by
  subst h; exact mayBe_any lo hi op w
theorem check_at {lo hi : ByteArray} {op : Bool} {c : Int} (h : Rg.chk ⟨lo, hi, op⟩ = c) (w : World) :
    Calls Tryd.prog 11 #[.agg #[.string lo, .string hi, .bool op]] w fun e w' => e = .returned (.int .i64 c) ∧ Below w.heap.size w w' := by
  subst h; exact check_any lo hi op w
theorem may_chk {r : Rg} (h : r.may = true) : r.chk = 0 := by simpa [Rg.may] using h
set_option maxHeartbeats 1600000 in
theorem empty_any (lo hi : ByteArray) (op : Bool) (w : World) :
    Calls Tryd.prog 79 #[.agg #[.string lo, .string hi, .bool op]] w fun e w' => e = .returned (.bool (Rg.emp ⟨lo, hi, op⟩)) ∧ Below w.heap.size w w' := by
  cases hm : Rg.may ⟨lo, hi, op⟩
  · rw [show Rg.emp ⟨lo, hi, op⟩ = true from by simp [Rg.emp, hm]]
    have C := aside (fun w => mayBe_at hm w)
    clear hm
    go_enter Tryd.func79, Tryd.ntmps79
    go_wp2_with (go_at_call 88; refine (C.out _).mono ?_; rintro e w1 ⟨rfl, b1⟩; obtain ⟨q0, q1, q2⟩ := box3 b1)
    go_ret
    exact ⟨rfl, bthen (bnew w _) b1⟩
  · have C := aside (fun w => mayBe_at hm w)
    rw [show Rg.emp ⟨lo, hi, op⟩ = (!op && (lo.toList == hi.toList)) from by simp [Rg.emp, hm]]
    clear hm
    cases op
    · cases h5 : (lo.toList == hi.toList)
      all_goals
        go_enter Tryd.func79, Tryd.ntmps79
        go_wp2_with (go_at_call 88; refine (C.out _).mono ?_; rintro e w1 ⟨rfl, b1⟩; obtain ⟨q0, q1, q2⟩ := box3 b1)
        go_ret
        exact ⟨rfl, bthen (bnew w _) b1⟩
    · go_enter Tryd.func79, Tryd.ntmps79
      go_wp2_with (go_at_call 88; refine (C.out _).mono ?_; rintro e w1 ⟨rfl, b1⟩; obtain ⟨q0, q1, q2⟩ := box3 b1)
      go_ret
      exact ⟨rfl, bthen (bnew w _) b1⟩
set_option maxHeartbeats 1600000 in
theorem holds_any (lo hi : ByteArray) (op : Bool) (k : ByteArray) (w : World) :
    Calls Tryd.prog 60 #[.agg #[.string lo, .string hi, .bool op], .string k] w fun e w' => e = .returned (.bool (Rg.has ⟨lo, hi, op⟩ k)) ∧ Below w.heap.size w w' := by
  cases hm : Rg.may ⟨lo, hi, op⟩
  · rw [show Rg.has ⟨lo, hi, op⟩ k = false from by simp [Rg.has, hm]]
    have C := aside (fun w => mayBe_at hm w)
    clear hm
    go_enter Tryd.func60, Tryd.ntmps60
    go_wp2_with (go_at_call 88; refine (C.out _).mono ?_; rintro e w1 ⟨rfl, b1⟩; obtain ⟨q0, q1, q2⟩ := box3 b1)
    go_ret
    exact ⟨rfl, bthen (bnew w _) b1⟩
  · have C := aside (fun w => mayBe_at hm w)
    rw [show Rg.has ⟨lo, hi, op⟩ k = (decide ((k.size : Int) ≤ 16) && !Op.bytesLess k.toList lo.toList && (op || Op.bytesLess k.toList hi.toList)) from by simp [Rg.has, hm]]
    clear hm
    by_cases h1 : (k.size : Int) ≤ 16
    · rw [decide_eq_true h1]
      cases h2 : Op.bytesLess k.toList lo.toList
      · cases op
        · cases h5 : Op.bytesLess k.toList hi.toList
          all_goals
            go_enter Tryd.func60, Tryd.ntmps60
            go_wp2_with (go_at_call 88; refine (C.out _).mono ?_; rintro e w1 ⟨rfl, b1⟩; obtain ⟨q0, q1, q2⟩ := box3 b1)
            go_ret
            exact ⟨rfl, bthen (bnew w _) b1⟩
        · go_enter Tryd.func60, Tryd.ntmps60
          go_wp2_with (go_at_call 88; refine (C.out _).mono ?_; rintro e w1 ⟨rfl, b1⟩; obtain ⟨q0, q1, q2⟩ := box3 b1)
          go_ret
          exact ⟨rfl, bthen (bnew w _) b1⟩
      · go_enter Tryd.func60, Tryd.ntmps60
        go_wp2_with (go_at_call 88; refine (C.out _).mono ?_; rintro e w1 ⟨rfl, b1⟩; obtain ⟨q0, q1, q2⟩ := box3 b1)
        go_ret
        exact ⟨rfl, bthen (bnew w _) b1⟩
    · rw [decide_eq_false h1]
      go_enter Tryd.func60, Tryd.ntmps60
      go_wp2_with (go_at_call 88; refine (C.out _).mono ?_; rintro e w1 ⟨rfl, b1⟩; obtain ⟨q0, q1, q2⟩ := box3 b1)
      go_ret
      exact ⟨rfl, bthen (bnew w _) b1⟩
end Go.Proofs.YtoflalflacopdaaDoor

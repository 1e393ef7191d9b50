/-
  fold (E).
  Fold (E).
  Plain mathematics: trees that Put has made.
  A tree in memory, as a law meets it (E).
  Plain mathematics: rows whose values are their summaries, texts of rows written one behind the other.
-/
import Derived.Test.YtlgcdcjhflihiaaDoorBstorefills18
import Derived.Test.YtlgcdcjhflihiaaDoorBstorefills19
import Derived.Test.YtlgcdcjhflihiaaDoorBstorefills20
import Derived.Test.YtlgcdcjhflihiaaDoorBstorefills21
import Derived.Test.YtlgcdcjhflihiaaDoorBstorefills4
import Derived.Test.YtlgcdcjhflihiaaDoorBstorefills2
namespace Go.Proofs.YtlgcdcjhflihiaaDoor
open Go.RowKit
set_option linter.unusedVariables false

theorem foldE {jv : Value} {c : Option Nat} (HB : BothOkE jv c) : ∀ T : Tr En Tl, T.wt tSz ≤ 4611686018427387904 → FoldOkE jv c T
  | .nil, _ => fun w tb n i j I J root p _ _ _ _ _ h1 h2 => by simp [Tr.cnt] at h2; omega
  | .node l k v s r, hw => fun w tb n i j I J root p hI hJ ht hc hT h1 h2 => by
    have hL := foldE HB l (by simp only [Tr.wt] at hw; omega)
    have hR := foldE HB r (by simp only [Tr.wt] at hw; omega)
    have hcw := Tr.cnt_le_wt tSz (Tr.node l k v s r)
    obtain ⟨b, lp, rp, rfl, hb, hl, hr⟩ := hT
    have hcn : (Tr.node l k v s r).cnt = l.cnt + 1 + r.cnt := rfl
    by_cases g0 : i = 0 ∧ j = (Tr.node l k v s r).cnt
    · simp only [Tr.fld, Tr.fldC, if_pos g0]
      exact foldAE HB ht hc hb hl hr rfl (by rw [hI, g0.1]; rfl) (by rw [hJ, g0.2]; simp)
    · simp only [Tr.fld, Tr.fldC, if_neg g0]
      have hz : (I == 0) = true → (J == ((Tr.node l k v s r).cnt : Int)) = false := fun e => by
        rw [beq_iff_eq] at e
        rw [beq_eq_false_iff_ne]
        omega
      by_cases g1 : j ≤ l.cnt
      · simp only [if_pos g1]
        exact foldBE HB ht hc hb hl hr rfl (fun W a b d => hL W tb n i j I J root lp hI hJ a b (hl.on d) h1 g1) hz (by omega)
      · simp only [if_neg g1]
        by_cases g2 : l.cnt < i
        · simp only [if_pos g2]
          exact foldCE HB ht hc hb hl hr rfl (fun W a b d => hR W tb n (i - l.cnt - 1) (j - l.cnt - 1) _ _ root rp (by omega) (by omega) a b (hr.on d) (by omega) (by omega)) (by rw [beq_eq_false_iff_ne]; omega) (by omega) (by omega) (by rw [IntKind.wrap_i64]; omega) (by rw [IntKind.wrap_i64]; omega) (by rw [IntKind.wrap_i64]; omega) (by rw [IntKind.wrap_i64]; omega)
        · simp only [if_neg g2]
          have hsl : i < l.cnt → tSz (Tr.fld tJoin tZero l i l.cnt) ≤ l.wt tSz := fun h => Tr.fld_le tSz_le tZero l i l.cnt h (Nat.le_refl _)
          have hsr : l.cnt + 1 < j → tSz (Tr.fld tJoin tZero r 0 (j - l.cnt - 1)) ≤ r.wt tSz := fun h => Tr.fld_le tSz_le tZero r 0 _ (by omega) (by omega)
          have hj2 := tSz_le (Tr.fld tJoin tZero l i l.cnt) s
          have hw2 := hw
          simp only [Tr.wt] at hw2
          by_cases g3 : i < l.cnt
          · by_cases g4 : l.cnt + 1 < j
            · simp only [if_pos g3, if_pos g4]
              refine (foldD11E HB ht hc hb hl rfl (fun W m a b d => hL W tb m i l.cnt I _ root lp hI rfl a b (hl.on d) g3 (Nat.le_refl _)) (by have := hsl g3; omega) (fun W m a b d => hR W tb m 0 (j - l.cnt - 1) _ _ root rp rfl (by omega) a b (hr.on d) (by omega) (by omega)) (by have := hsl g3; have := hsr g4; omega) (by rw [IntKind.wrap_i64]; omega) (by rw [IntKind.wrap_i64]; omega) hz (by omega) (by omega) (by omega) (by rw [IntKind.wrap_i64]; omega) (by omega)).mono fun e w' h => ⟨h.1, ?_, h.2.2⟩
              rw [show n + (Tr.fldC l i l.cnt + 1 + (Tr.fldC r 0 (j - l.cnt - 1) + 1)) = n + Tr.fldC l i l.cnt + 1 + Tr.fldC r 0 (j - l.cnt - 1) + 1 from by omega]
              exact h.2.1
            · simp only [if_pos g3, if_neg g4]
              exact foldD10E HB ht hc hb hl rfl (fun W m a b d => hL W tb m i l.cnt I _ root lp hI rfl a b (hl.on d) g3 (Nat.le_refl _)) (by have := hsl g3; omega) hz (by omega) (by omega) (by omega) (by rw [IntKind.wrap_i64]; omega) (by omega)
          · by_cases g4 : l.cnt + 1 < j
            · simp only [if_neg g3, if_pos g4]
              refine (foldD01E HB ht hc hb hl rfl (fun W m a b d => hR W tb m 0 (j - l.cnt - 1) _ _ root rp rfl (by omega) a b (hr.on d) (by omega) (by omega)) (by have := hsr g4; omega) (by rw [IntKind.wrap_i64]; omega) (by rw [IntKind.wrap_i64]; omega) hz (by omega) (by omega) (by omega) (by rw [IntKind.wrap_i64]; omega) (by omega)).mono fun e w' h => ⟨h.1, ?_, h.2.2⟩
              rw [show n + (0 + (Tr.fldC r 0 (j - l.cnt - 1) + 1)) = n + Tr.fldC r 0 (j - l.cnt - 1) + 1 from by omega]
              exact h.2.1
            · simp only [if_neg g3, if_neg g4]
              exact foldD00E HB ht hc hb hl rfl hz (by omega) (by omega) (by omega) (by rw [IntKind.wrap_i64]; omega) (by omega)

end Go.Proofs.YtlgcdcjhflihiaaDoor
namespace Go.Proofs.YtlgcdcjhflihiaaDoor
open Go.RowKit
set_option linter.unusedVariables false

set_option maxHeartbeats 6400000 in
set_option maxRecDepth 100000 in
theorem foldsE {jv : Value} {c : Option Nat} (HB : BothOkE jv c) {w : World} {tb n : Nat} {p0 : Option Addr} {T : Tr En Tl} (I J : Int) (ht : TObjE w tb jv p0) (hc : CntE c n w) (hT : IsTE w p0 T) (hw : T.wt tSz ≤ 4611686018427387904) :
    Calls Tryd.prog 44 #[.pointer (some ⟨tb, 0, none⟩), .int .i64 I, .int .i64 J] w fun e w' => e = .returned (.agg #[.int .i64 (Tr.fol tJoin tZero T I J).n, .int .u64 (Tr.fol tJoin tZero T I J).a, .int .u64 (Tr.fol tJoin tZero T I J).b]) ∧ CntE c (n + Tr.folC T I J) w' ∧ Keeps (OnC c) w w' := by
  have Fo := aside (foldE HB T hw)
  have F := aside (fstE ht hc)
  have HC := aside hc
  have CL := aside (fun (W : World) (h : TObjE W tb jv p0) (g : Stay 120 w W) => lenE h (hT.on g))
  obtain ⟨c0, c1, c2, -, r0, -⟩ := tobjE F.out.tobj
  obtain ⟨I', hI'⟩ : ∃ x, max I 0 = x := ⟨_, rfl⟩
  obtain ⟨J', hJ'⟩ : ∃ x, min J (T.cnt : Int) = x := ⟨_, rfl⟩
  rw [Tr.fol_eq _ _ _ _ _ hI' hJ', Tr.folC_eq _ _ _ hI' hJ']
  have hnn : (0 : Int) ≤ (T.cnt : Int) := by omega
  have CF := aside (fun (W : World) (m : Nat) (h1 : I' < J') (h : TObjE W tb jv p0) (h2 : CntE c m W) (g : Stay 120 w W) => Fo.out W tb m I'.toNat J'.toNat I' J' p0 p0 (by omega) (by omega) h h2 (hT.on g) (by omega) (by omega))
  generalize (T.cnt : Int) = nn at *
  have HT := aside hT
  clear ht hc hT hw Fo hnn
  by_cases q0 : I' < J'
  · rw [if_pos q0, if_pos q0]
    have CF' := aside (fun W m => CF.out W m q0)
    clear CF
    generalize Tr.fld tJoin tZero T I'.toNat J'.toNat = fv at *
    by_cases q1 : I < 0
    · have e1 : I' = 0 := by omega
      by_cases q2 : nn < J
      · have e2 : J' = nn := by omega
        subst e1 e2
        clear hI' hJ'
        go_enter Tryd.func44, Tryd.ntmps44
        go_wp2_with fail
        refine (CL.out _ F.out.tobj F.out.stay).mono ?_
        rintro e w1 ⟨rfl, rfl⟩
        go_wp2_with fail
        refine (CF'.out _ _ F.out.tobj F.out.cnt F.out.stay).mono ?_
        rintro e w1 ⟨rfl, bc, kk⟩
        have G := aside (F.out.on HC.out kk bc)
        obtain ⟨s0, s1, s2, z0, z1, z2⟩ := tri G.out.res
        have E := aside (set3_end G.out HC.out fv)
        unfold set3 at E
        clear bc kk CF' CL c0 c1 c2 r0 F
        go_wp2
        exact bodyPost_ret (v := .agg #[.int .i64 fv.n, .int .u64 fv.a, .int .u64 fv.b]) (by simp [results, Tryd.results44, go_sem, s0, s1, s2]) rfl ⟨rfl, E.out.1, E.out.2⟩
      · have e2 : J' = J := by omega
        subst e1 e2
        clear hI' hJ'
        go_enter Tryd.func44, Tryd.ntmps44
        go_wp2_with fail
        refine (CL.out _ F.out.tobj F.out.stay).mono ?_
        rintro e w1 ⟨rfl, rfl⟩
        go_wp2_with fail
        refine (CF'.out _ _ F.out.tobj F.out.cnt F.out.stay).mono ?_
        rintro e w1 ⟨rfl, bc, kk⟩
        have G := aside (F.out.on HC.out kk bc)
        obtain ⟨s0, s1, s2, z0, z1, z2⟩ := tri G.out.res
        have E := aside (set3_end G.out HC.out fv)
        unfold set3 at E
        clear bc kk CF' CL c0 c1 c2 r0 F
        go_wp2
        exact bodyPost_ret (v := .agg #[.int .i64 fv.n, .int .u64 fv.a, .int .u64 fv.b]) (by simp [results, Tryd.results44, go_sem, s0, s1, s2]) rfl ⟨rfl, E.out.1, E.out.2⟩
    · have e1 : I' = I := by omega
      by_cases q2 : nn < J
      · have e2 : J' = nn := by omega
        subst e1 e2
        clear hI' hJ'
        go_enter Tryd.func44, Tryd.ntmps44
        go_wp2_with fail
        refine (CL.out _ F.out.tobj F.out.stay).mono ?_
        rintro e w1 ⟨rfl, rfl⟩
        go_wp2_with fail
        refine (CF'.out _ _ F.out.tobj F.out.cnt F.out.stay).mono ?_
        rintro e w1 ⟨rfl, bc, kk⟩
        have G := aside (F.out.on HC.out kk bc)
        obtain ⟨s0, s1, s2, z0, z1, z2⟩ := tri G.out.res
        have E := aside (set3_end G.out HC.out fv)
        unfold set3 at E
        clear bc kk CF' CL c0 c1 c2 r0 F
        go_wp2
        exact bodyPost_ret (v := .agg #[.int .i64 fv.n, .int .u64 fv.a, .int .u64 fv.b]) (by simp [results, Tryd.results44, go_sem, s0, s1, s2]) rfl ⟨rfl, E.out.1, E.out.2⟩
      · have e2 : J' = J := by omega
        subst e1 e2
        clear hI' hJ'
        go_enter Tryd.func44, Tryd.ntmps44
        go_wp2_with fail
        refine (CL.out _ F.out.tobj F.out.stay).mono ?_
        rintro e w1 ⟨rfl, rfl⟩
        go_wp2_with fail
        refine (CF'.out _ _ F.out.tobj F.out.cnt F.out.stay).mono ?_
        rintro e w1 ⟨rfl, bc, kk⟩
        have G := aside (F.out.on HC.out kk bc)
        obtain ⟨s0, s1, s2, z0, z1, z2⟩ := tri G.out.res
        have E := aside (set3_end G.out HC.out fv)
        unfold set3 at E
        clear bc kk CF' CL c0 c1 c2 r0 F
        go_wp2
        exact bodyPost_ret (v := .agg #[.int .i64 fv.n, .int .u64 fv.a, .int .u64 fv.b]) (by simp [results, Tryd.results44, go_sem, s0, s1, s2]) rfl ⟨rfl, E.out.1, E.out.2⟩
  · rw [if_neg q0, if_neg q0]
    clear CF
    by_cases q1 : I < 0
    · have e1 : I' = 0 := by omega
      by_cases q2 : nn < J
      · have e2 : J' = nn := by omega
        subst e1 e2
        clear hI' hJ'
        go_enter Tryd.func44, Tryd.ntmps44
        go_wp2_with fail
        refine (CL.out _ F.out.tobj F.out.stay).mono ?_
        rintro e w1 ⟨rfl, rfl⟩
        go_wp2
        exact bodyPost_ret (v := .agg #[.int .i64 0, .int .u64 0, .int .u64 0]) (by simp [results, Tryd.results44, go_sem]) rfl ⟨rfl, HC.out.alloc _, (Keeps.refl _ w).alloc _⟩
      · have e2 : J' = J := by omega
        subst e1 e2
        clear hI' hJ'
        go_enter Tryd.func44, Tryd.ntmps44
        go_wp2_with fail
        refine (CL.out _ F.out.tobj F.out.stay).mono ?_
        rintro e w1 ⟨rfl, rfl⟩
        go_wp2
        exact bodyPost_ret (v := .agg #[.int .i64 0, .int .u64 0, .int .u64 0]) (by simp [results, Tryd.results44, go_sem]) rfl ⟨rfl, HC.out.alloc _, (Keeps.refl _ w).alloc _⟩
    · have e1 : I' = I := by omega
      by_cases q2 : nn < J
      · have e2 : J' = nn := by omega
        subst e1 e2
        clear hI' hJ'
        go_enter Tryd.func44, Tryd.ntmps44
        go_wp2_with fail
        refine (CL.out _ F.out.tobj F.out.stay).mono ?_
        rintro e w1 ⟨rfl, rfl⟩
        go_wp2
        exact bodyPost_ret (v := .agg #[.int .i64 0, .int .u64 0, .int .u64 0]) (by simp [results, Tryd.results44, go_sem]) rfl ⟨rfl, HC.out.alloc _, (Keeps.refl _ w).alloc _⟩
      · have e2 : J' = J := by omega
        subst e1 e2
        clear hI' hJ'
        go_enter Tryd.func44, Tryd.ntmps44
        go_wp2_with fail
        refine (CL.out _ F.out.tobj F.out.stay).mono ?_
        rintro e w1 ⟨rfl, rfl⟩
        go_wp2
        exact bodyPost_ret (v := .agg #[.int .i64 0, .int .u64 0, .int .u64 0]) (by simp [results, Tryd.results44, go_sem]) rfl ⟨rfl, HC.out.alloc _, (Keeps.refl _ w).alloc _⟩

end Go.Proofs.YtlgcdcjhflihiaaDoor
namespace Go.Proofs.YtlgcdcjhflihiaaDoor
open Go.RowKit
set_option linter.unusedVariables false
variable {β α : Type}
theorem wt_put (z : α → Nat) (k : ByteArray) (v : β) (s : α) : ∀ t : Tr β α, (Tr.put k v s t).wt z ≤ t.wt z + 1 + z s
  | .nil => by simp [Tr.put, Tr.wt]
  | .node l k' v' s' r => by
    have h1 := wt_put z k v s l
    have h2 := wt_put z k v s r
    simp only [Tr.put]
    split
    · rw [Tr.wt_level]; simp only [Tr.wt]; omega
    · split
      · rw [Tr.wt_level]; simp only [Tr.wt]; omega
      · simp only [Tr.wt]; omega

/-- Balanced, rising, and holding no more than m. -/
structure Gd (z : α → Nat) (t : Tr β α) (m : Nat) : Prop where
  bal : t.bal
  rises : Rises t.rows
  wt : t.wt z ≤ m

theorem Gd.nil (z : α → Nat) : Gd z (.nil : Tr β α) 0 := ⟨trivial, List.Pairwise.nil, Nat.le_refl _⟩

theorem Gd.put {z : α → Nat} {t : Tr β α} {m : Nat} (h : Gd z t m) (k : ByteArray) (v : β) (s : α) : Gd z (Tr.put k v s t) (m + 1 + z s) :=
  ⟨(Tr.bal_put k v s t h.bal).1, by rw [rows_put k v s t h.rises]; exact rises_ins _ h.rises, by have := wt_put z k v s t; have := h.wt; omega⟩

theorem Gd.mono {z : α → Nat} {t : Tr β α} {m m' : Nat} (h : Gd z t m) (hm : m ≤ m') : Gd z t m' := ⟨h.bal, h.rises, Nat.le_trans h.wt hm⟩

theorem Gd.cnt {z : α → Nat} {t : Tr β α} {m : Nat} (h : Gd z t m) : t.cnt ≤ m := Nat.le_trans (Tr.cnt_le_wt z t) h.wt

theorem Gd.ht {z : α → Nat} {t : Tr β α} {m : Nat} (h : Gd z t m) (hm : m ≤ 281474976710655) : t.ht ≤ 97 := Tr.bal_ht h.bal (n := 48) (by have := h.cnt; omega)

theorem Gd.room {z : α → Nat} {t : Tr β α} {m x : Nat} (h : Gd z t m) (hm : m + 1 + x ≤ 281474976710655) : (t.ht + 2) * (t.wt z + 1 + x) ≤ 4611686018427387904 := by
  have h1 := h.ht (by omega)
  have h2 := h.wt
  have : (t.ht + 2) * (t.wt z + 1 + x) ≤ 99 * 281474976710655 := Nat.mul_le_mul (by omega) (by omega)
  omega

end Go.Proofs.YtlgcdcjhflihiaaDoor
namespace Go.Proofs.YtlgcdcjhflihiaaDoor
open Go.RowKit
set_option linter.unusedVariables false

/-- The tree in the block tb holds T. -/
def TreeE (W : World) (tb : Nat) (jv : Value) (T : Tr En Tl) : Prop := ∃ p, TObjE W tb jv p ∧ IsTE W p T

theorem TreeE.keep {S : Nat → Prop} {W W' : World} {tb : Nat} {jv : Value} {T : Tr En Tl} (h : TreeE W tb jv T) (kk : Keeps S W W') (ht : ¬ S tb) (hS : ∀ i cs, W.heap[i]? = some (.cells cs 120 (0, 0)) → ¬ S i) : TreeE W' tb jv T := by
  obtain ⟨p, h1, h2⟩ := h
  exact ⟨p, blk_keep h1 kk ht, h2.on ((Stay.refl _ _).keeps kk hS)⟩
theorem TreeE.below {W W' : World} {tb : Nat} {jv : Value} {T : Tr En Tl} (h : TreeE W tb jv T) (b : Below W.heap.size W W') : TreeE W' tb jv T := by
  obtain ⟨p, h1, h2⟩ := h
  exact ⟨p, blk_on h1 b, h2.on (fun _ _ e => blk_on e b)⟩
theorem TreeE.drew {W : World} {tb : Nat} {jv : Value} {T : Tr En Tl} (h : TreeE W tb jv T) : TreeE W.drew tb jv T := h.below ((Below.refl _ _).drew)
theorem TreeE.lt {W : World} {tb : Nat} {jv : Value} {T : Tr En Tl} (h : TreeE W tb jv T) : tb < W.heap.size := by
  obtain ⟨p, h1, h2⟩ := h
  exact lt_of_blk h1
theorem TreeE.onC {W W' : World} {tb n : Nat} {jv : Value} {T : Tr En Tl} {c : Option Nat} (h : TreeE W tb jv T) (hc : CntE c n W) (kk : Keeps (OnC c) W W') : TreeE W' tb jv T := by
  obtain ⟨p, h1, h2⟩ := h
  exact ⟨p, h1.onC hc kk, h2.on ((Stay.refl _ _).onE hc kk (by decide))⟩

theorem ynewE (fn : Fn) (first cap : Array Value) (w : World) :
    Calls Tryd.prog 65 #[.agg #[.int .i64 0, .int .u64 0, .int .u64 0], .func fn first cap] w fun e w' => ∃ tb, e = .returned (.pointer (some ⟨tb, 0, none⟩)) ∧ TreeE w' tb (.func fn first cap) .nil ∧ Below w.heap.size w w' ∧ w.heap.size ≤ tb :=
  (newE fn first cap w).mono fun e w' ⟨tb, h1, h2, h3, h4⟩ => ⟨tb, h1, ⟨none, h2, rfl⟩, h3, h4⟩

theorem yputE (k : ByteArray) (v : En) (s : Tl) {jv : Value} {c : Option Nat} {W : World} {tb n m : Nat} {T : Tr En Tl} (h : TreeE W tb jv T) (HB : BothOkE jv c) (hc : CntE c n W) (g : Gd tSz T m) (hm : m + 1 + tSz s ≤ 281474976710655) :
    Calls Tryd.prog 56 #[.pointer (some ⟨tb, 0, none⟩), .string k, .agg #[.string v.k, .int .i64 v.c, .int .i64 v.n, .string v.v, .bool v.d], .agg #[.int .i64 s.n, .int .u64 s.a, .int .u64 s.b]] W fun e w' => e = .returned (.tuple #[.agg #[.string ((Tr.found k T).val eNone).k, .int .i64 ((Tr.found k T).val eNone).c, .int .i64 ((Tr.found k T).val eNone).n, .string ((Tr.found k T).val eNone).v, .bool ((Tr.found k T).val eNone).d], .bool (!(Tr.found k T).isNil)]) ∧ TreeE w' tb jv (Tr.put k v s T) ∧ CntE c (n + Tr.putC k v s T) w' ∧ Keeps (fun x => x = tb ∨ OnC c x) W w' := by
  obtain ⟨p, h1, h2⟩ := h
  exact putE HB k v s h1 hc h2 (by have := g.ht (by omega); omega) (by have := g.cnt; omega) (g.room hm)

theorem ylenE {jv : Value} {W : World} {tb : Nat} {T : Tr En Tl} (h : TreeE W tb jv T) :
    Calls Tryd.prog 32 #[.pointer (some ⟨tb, 0, none⟩)] W fun e w' => e = .returned (.int .i64 (T.cnt : Int)) ∧ w' = W := by
  obtain ⟨p, h1, h2⟩ := h
  exact lenE h1 h2

theorem yfoldE (I J : Int) {jv : Value} {c : Option Nat} {W : World} {tb n m : Nat} {T : Tr En Tl} (h : TreeE W tb jv T) (HB : BothOkE jv c) (hc : CntE c n W) (g : Gd tSz T m) (hm : m ≤ 281474976710655) :
    Calls Tryd.prog 44 #[.pointer (some ⟨tb, 0, none⟩), .int .i64 I, .int .i64 J] W fun e w' => e = .returned (.agg #[.int .i64 (Tr.fol tJoin tZero T I J).n, .int .u64 (Tr.fol tJoin tZero T I J).a, .int .u64 (Tr.fol tJoin tZero T I J).b]) ∧ CntE c (n + Tr.folC T I J) w' ∧ Keeps (OnC c) W w' := by
  obtain ⟨p, h1, h2⟩ := h
  exact foldsE HB I J h1 hc h2 (by have := g.wt; omega)

theorem ygetE (k : ByteArray) {jv : Value} {W : World} {tb m : Nat} {T : Tr En Tl} (h : TreeE W tb jv T) (g : Gd tSz T m) (hm : m ≤ 281474976710655) :
    Calls Tryd.prog 36 #[.pointer (some ⟨tb, 0, none⟩), .string k] W fun e w' => e = .returned (.tuple #[.agg #[.string ((Tr.found k T).val eNone).k, .int .i64 ((Tr.found k T).val eNone).c, .int .i64 ((Tr.found k T).val eNone).n, .string ((Tr.found k T).val eNone).v, .bool ((Tr.found k T).val eNone).d], .bool (!(Tr.found k T).isNil)]) ∧ Below W.heap.size W w' := by
  obtain ⟨p, h1, h2⟩ := h
  exact getE k h1 h2 (by have := g.ht hm; omega) (by have := g.cnt; omega)

theorem yrankE (k : ByteArray) {jv : Value} {W : World} {tb m : Nat} {T : Tr En Tl} (h : TreeE W tb jv T) (g : Gd tSz T m) (hm : m ≤ 281474976710655) :
    Calls Tryd.prog 57 #[.pointer (some ⟨tb, 0, none⟩), .string k] W fun e w' => e = .returned (.int .i64 (Tr.lower k T : Int)) ∧ Below W.heap.size W w' := by
  obtain ⟨p, h1, h2⟩ := h
  exact rankE k h1 h2 (by have := g.ht hm; omega) (by have := g.cnt; omega)

end Go.Proofs.YtlgcdcjhflihiaaDoor
namespace Go.Proofs.YtlgcdcjhflihiaaDoor
open Go.RowKit
set_option linter.unusedVariables false
variable {β α : Type}
theorem look_self {l : List (Rw β α)} (h : Rises l) {q : Nat} {y : Rw β α} (hy : l[q]? = some y) : look y.k l = some y := by
  induction l generalizing q with
  | nil => simp at hy
  | cons a l ih =>
    unfold Rises at h
    rw [List.pairwise_cons] at h
    unfold look
    rw [List.find?_cons]
    cases q with
    | zero =>
      simp at hy
      subst hy
      simp [kLt_irrefl]
    | succ q =>
      simp at hy
      have hm := List.mem_of_getElem? hy
      have := h.1 y hm
      rw [this]
      simp only [Bool.not_true, Bool.and_false]
      exact ih h.2 hy

theorem found_nth {t : Tr β α} (h : Rises t.rows) {q : Nat} {z : β} {k : ByteArray} {v : β} {s : α} {l r : Tr β α} (hn : Tr.nth t (q : Int) = .node l k v s r) : ∃ l' r', Tr.found k t = .node l' k v s r' := by
  have h1 := nth_rows t q
  rw [hn] at h1
  have h2 := look_self h h1.symm
  rw [look_found k t h] at h2
  cases hF : Tr.found k t with
  | nil => rw [hF] at h2; cases h2
  | node l' k' v' s' r' =>
    rw [hF] at h2
    simp only [Option.some.injEq, Rw.mk.injEq] at h2
    obtain ⟨rfl, rfl, rfl⟩ := h2
    exact ⟨l', r', rfl⟩

theorem nth_node {t : Tr β α} {q : Nat} (h : q < t.cnt) : ∃ l k v s r, Tr.nth t (q : Int) = .node l k v s r ∧ t.rows[q]? = some ⟨k, v, s⟩ := by
  have h1 := nth_rows t q
  have h2 : q < t.rows.length := by rw [Tr.rows_length]; exact h
  cases hn : Tr.nth t (q : Int) with
  | nil => rw [hn, List.getElem?_eq_getElem h2] at h1; cases h1
  | node l k v s r => rw [hn] at h1; exact ⟨l, k, v, s, r, rfl, h1.symm⟩

/-- Each row's value is its summary. -/
def Same (l : List (Rw ByteArray ByteArray)) : Prop := ∀ y ∈ l, y.v = y.s

theorem same_put {t : Tr ByteArray ByteArray} (h : Rises t.rows) (hs : Same t.rows) (k v : ByteArray) : Same (Tr.put k v v t).rows := by
  rw [rows_put k v v t h]
  intro y hy
  rcases ins_mem _ _ hy with rfl | hy
  · rfl
  · exact hs y hy

theorem mon_str : Mon sJoin sZero := by
  constructor
  · intro a b c; exact ByteArray.append_assoc
  · intro a; exact ByteArray.empty_append
  · intro a; exact ByteArray.append_empty

theorem take_snocR (l : List (Rw β α)) {q : Nat} {y : Rw β α} (h : l[q]? = some y) : l.take (q + 1) = l.take q ++ [y] := by
  obtain ⟨hlt, e⟩ := List.getElem?_eq_some_iff.1 h
  rw [List.take_succ_eq_append_getElem hlt, e]

theorem fold_take {J : α → α → α} {e : α} (m : Mon J e) (l : List (Rw β α)) {q : Nat} {y : Rw β α} (h : l[q]? = some y) : foldL J e (l.take (q + 1)) = J (foldL J e (l.take q)) y.s := by
  rw [take_snocR l h, foldL_append m, foldL_cons m, foldL_nil, m.right]

/-- The rows from i on below j, of the first q. -/
def pickL {β α : Type} (l : List (Rw β α)) (i j : Int) (q : Nat) : List (Rw β α) := seg l (max i 0).toNat (min j (q : Int)).toNat

theorem pick_in {l : List (Rw β α)} {i j : Int} {q : Nat} {y : Rw β α} (h : l[q]? = some y) (h1 : i ≤ (q : Int)) (h2 : (q : Int) < j) : pickL l i j (q + 1) = pickL l i j q ++ [y] := by
  unfold pickL seg
  have hlt := (List.getElem?_eq_some_iff.1 h).1
  rw [show (min j ((q + 1 : Nat) : Int)).toNat = q + 1 from by omega, show (min j (q : Int)).toNat = q from by omega, take_snocR l h, List.drop_append_of_le_length (by rw [List.length_take]; omega)]

theorem pick_out {l : List (Rw β α)} {i j : Int} {q : Nat} (h : ¬ (i ≤ (q : Int) ∧ (q : Int) < j)) : pickL l i j (q + 1) = pickL l i j q := by
  unfold pickL seg
  by_cases h1 : i ≤ (q : Int)
  · rw [show (min j ((q + 1 : Nat) : Int)).toNat = (min j (q : Int)).toNat from by omega]
  · rw [List.drop_of_length_le (by rw [List.length_take]; omega), List.drop_of_length_le (by rw [List.length_take]; omega)]

theorem fold_pick {J : α → α → α} {e : α} (m : Mon J e) {l : List (Rw β α)} {i j : Int} {q : Nat} {y : Rw β α} (h : l[q]? = some y) (h1 : i ≤ (q : Int)) (h2 : (q : Int) < j) : foldL J e (pickL l i j (q + 1)) = J (foldL J e (pickL l i j q)) y.s := by
  rw [pick_in h h1 h2, foldL_append m, foldL_cons m, foldL_nil, m.right]

theorem pick_zero (l : List (Rw β α)) (i j : Int) : pickL l i j 0 = [] := by
  unfold pickL seg
  rw [show (min j ((0 : Nat) : Int)).toNat = 0 from by omega]
  simp

/-- How long texts are. -/
def lenL (l : List (Rw ByteArray ByteArray)) : Nat := (l.map (fun y => y.s.size)).sum

theorem lenL_append (A B : List (Rw ByteArray ByteArray)) : lenL (A ++ B) = lenL A + lenL B := by simp [lenL]

theorem size_fold : ∀ l : List (Rw ByteArray ByteArray), (foldL sJoin sZero l).size = lenL l
  | [] => rfl
  | y :: l => by
    rw [foldL_cons mon_str, show lenL (y :: l) = y.s.size + lenL l from by simp [lenL]]
    show (y.s ++ foldL sJoin sZero l).size = _
    rw [ByteArray.size_append, size_fold l]

theorem lenL_wt : ∀ t : Tr ByteArray ByteArray, lenL t.rows + t.cnt = t.wt sSz
  | .nil => rfl
  | .node l k v s r => by
    have h1 := lenL_wt l
    have h2 := lenL_wt r
    have e : lenL ((⟨k, v, s⟩ : Rw ByteArray ByteArray) :: r.rows) = s.size + lenL r.rows := by simp [lenL]
    simp only [Tr.rows, lenL_append, Tr.cnt, Tr.wt, e, sSz]
    omega

theorem lenL_take (l : List (Rw ByteArray ByteArray)) (q : Nat) : lenL (l.take q) ≤ lenL l := by
  have := lenL_append (l.take q) (l.drop q)
  rw [List.take_append_drop] at this
  omega

theorem lenL_drop (l : List (Rw ByteArray ByteArray)) (q : Nat) : lenL (l.drop q) ≤ lenL l := by
  have := lenL_append (l.take q) (l.drop q)
  rw [List.take_append_drop] at this
  omega

theorem lenL_pick (l : List (Rw ByteArray ByteArray)) (i j : Int) (q : Nat) : lenL (pickL l i j q) ≤ lenL l := Nat.le_trans (lenL_drop _ _) (lenL_take _ _)

theorem lenL_mem {l : List (Rw ByteArray ByteArray)} {q : Nat} {y : Rw ByteArray ByteArray} (h : l[q]? = some y) : y.s.size ≤ lenL l := by
  have h1 := lenL_take l (q + 1)
  rw [take_snocR l h, lenL_append] at h1
  have : lenL [y] = y.s.size := by simp [lenL]
  omega

end Go.Proofs.YtlgcdcjhflihiaaDoor

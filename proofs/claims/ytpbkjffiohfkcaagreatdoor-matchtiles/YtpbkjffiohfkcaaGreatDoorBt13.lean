/-
  Fold (E).
-/
import Derived.Test.YtpbkjffiohfkcaaGreatDoorBt12
import Derived.Test.YtpbkjffiohfkcaaGreatDoorBt9
import Derived.Test.YtpbkjffiohfkcaaGreatDoorBt10
import Derived.Test.YtpbkjffiohfkcaaGreatDoorBt2
import Derived.Test.YtpbkjffiohfkcaaGreatDoorBt3
import Derived.Test.YtpbkjffiohfkcaaGreatDoorBt1
import Derived.Below
import Derived.Test.YtpbkjffiohfkcaaGreatDoorProg
import Derived.WalkKit
import Derived.Laws.Cover1
import Derived.WalkSpells
import Derived.WalkLawsBesides
import Derived.KernelRfl
import Derived.Laws.IdiomStrings
namespace Go.Proofs.YtpbkjffiohfkcaaGreatDoor
open Go.RowKit
set_option linter.unusedVariables false
set_option maxHeartbeats 6400000 in
set_option maxRecDepth 100000 in
theorem foldsE {jv : Value} {c : Option Nat} (HB : BothOkE jv c) {w : World} {tb n : Nat} {p0 : Option Addr} {T : Tr En Tl} (I J : Int) (ht : TObjE w tb jv p0) (hc : CntE c n w) (hT : IsTE w p0 T) (hw : T.wt tSz ≤ 4611686018427387904) :
    Calls Tryz.prog 49 #[.pointer (some ⟨tb, 0, none⟩), .int .i64 I, .int .i64 J] w fun e w' => e = .returned (.agg #[.int .i64 (Tr.fol tJoin tZero T I J).n, .int .u64 (Tr.fol tJoin tZero T I J).a, .int .u64 (Tr.fol tJoin tZero T I J).b]) ∧ CntE c (n + Tr.folC T I J) w' ∧ Keeps (OnC c) w w' := by
 have Fo := aside (foldE HB T hw)
 have F := aside (fstE ht hc)
 have HC := aside hc
 have CL := aside (fun (W : World) (h : TObjE W tb jv p0) (g : Stay 172 w W) => lenE h (hT.on g))
 obtain ⟨c0, c1, c2, -, r0, -⟩ := tobjE F.out.tobj
 obtain ⟨I', hI'⟩ : ∃ x, max I 0 = x := ⟨_, rfl⟩
 obtain ⟨J', hJ'⟩ : ∃ x, min J (T.cnt : Int) = x := ⟨_, rfl⟩
 rw [Tr.fol_eq _ _ _ _ _ hI' hJ', Tr.folC_eq _ _ _ hI' hJ']
 have hnn : (0 : Int) ≤ (T.cnt : Int) := by omega
 have CF := aside (fun (W : World) (m : Nat) (h1 : I' < J') (h : TObjE W tb jv p0) (h2 : CntE c m W) (g : Stay 172 w W) => Fo.out W tb m I'.toNat J'.toNat I' J' p0 p0 (by omega) (by omega) h h2 (hT.on g) (by omega) (by omega))
 generalize (T.cnt : Int) = nn at *
 have HT := aside hT
 clear ht hc hT hw Fo hnn
 by_cases q0 : I' < J'
 ·rw [if_pos q0, if_pos q0]
  have CF' := aside (fun W m => CF.out W m q0)
  clear CF
  generalize Tr.fld tJoin tZero T I'.toNat J'.toNat = fv at *
  by_cases q1 : I < 0
  ·have e1 : I' = 0 := by omega
   by_cases q2 : nn < J
   ·have e2 : J' = nn := by omega
    subst e1 e2
    clear hI' hJ'
    go_enter Tryz.func49, Tryz.ntmps49
    go_wp2_with fail
    refine (CL.out _ F.out.tobj F.out.stay).mono ?_
    rintro e w1 ⟨rfl, rfl⟩
    go_wp2_with fail
    refine (CF'.out _ _ F.out.tobj F.out.cnt F.out.stay).mono ?_
    rintro e w1 ⟨rfl, bc, kk⟩
    have G := aside (F.out.on HC.out kk bc)
    obtain ⟨s0, s1, s2, z0, z1, z2⟩ := tri G.out.res
    have E := aside (set3_end G.out HC.out fv)
    unfold set3 at E
    clear bc kk CF' CL c0 c1 c2 r0 F
    go_wp2
    exact bodyPost_ret (v := .agg #[.int .i64 fv.n, .int .u64 fv.a, .int .u64 fv.b]) (by simp [results, Tryz.results49, go_sem, s0, s1, s2]) rfl ⟨rfl, E.out.1, E.out.2⟩
   ·have e2 : J' = J := by omega
    subst e1 e2
    clear hI' hJ'
    go_enter Tryz.func49, Tryz.ntmps49
    go_wp2_with fail
    refine (CL.out _ F.out.tobj F.out.stay).mono ?_
    rintro e w1 ⟨rfl, rfl⟩
    go_wp2_with fail
    refine (CF'.out _ _ F.out.tobj F.out.cnt F.out.stay).mono ?_
    rintro e w1 ⟨rfl, bc, kk⟩
    have G := aside (F.out.on HC.out kk bc)
    obtain ⟨s0, s1, s2, z0, z1, z2⟩ := tri G.out.res
    have E := aside (set3_end G.out HC.out fv)
    unfold set3 at E
    clear bc kk CF' CL c0 c1 c2 r0 F
    go_wp2
    exact bodyPost_ret (v := .agg #[.int .i64 fv.n, .int .u64 fv.a, .int .u64 fv.b]) (by simp [results, Tryz.results49, go_sem, s0, s1, s2]) rfl ⟨rfl, E.out.1, E.out.2⟩
  ·have e1 : I' = I := by omega
   by_cases q2 : nn < J
   ·have e2 : J' = nn := by omega
    subst e1 e2
    clear hI' hJ'
    go_enter Tryz.func49, Tryz.ntmps49
    go_wp2_with fail
    refine (CL.out _ F.out.tobj F.out.stay).mono ?_
    rintro e w1 ⟨rfl, rfl⟩
    go_wp2_with fail
    refine (CF'.out _ _ F.out.tobj F.out.cnt F.out.stay).mono ?_
    rintro e w1 ⟨rfl, bc, kk⟩
    have G := aside (F.out.on HC.out kk bc)
    obtain ⟨s0, s1, s2, z0, z1, z2⟩ := tri G.out.res
    have E := aside (set3_end G.out HC.out fv)
    unfold set3 at E
    clear bc kk CF' CL c0 c1 c2 r0 F
    go_wp2
    exact bodyPost_ret (v := .agg #[.int .i64 fv.n, .int .u64 fv.a, .int .u64 fv.b]) (by simp [results, Tryz.results49, go_sem, s0, s1, s2]) rfl ⟨rfl, E.out.1, E.out.2⟩
   ·have e2 : J' = J := by omega
    subst e1 e2
    clear hI' hJ'
    go_enter Tryz.func49, Tryz.ntmps49
    go_wp2_with fail
    refine (CL.out _ F.out.tobj F.out.stay).mono ?_
    rintro e w1 ⟨rfl, rfl⟩
    go_wp2_with fail
    refine (CF'.out _ _ F.out.tobj F.out.cnt F.out.stay).mono ?_
    rintro e w1 ⟨rfl, bc, kk⟩
    have G := aside (F.out.on HC.out kk bc)
    obtain ⟨s0, s1, s2, z0, z1, z2⟩ := tri G.out.res
    have E := aside (set3_end G.out HC.out fv)
    unfold set3 at E
    clear bc kk CF' CL c0 c1 c2 r0 F
    go_wp2
    exact bodyPost_ret (v := .agg #[.int .i64 fv.n, .int .u64 fv.a, .int .u64 fv.b]) (by simp [results, Tryz.results49, go_sem, s0, s1, s2]) rfl ⟨rfl, E.out.1, E.out.2⟩
 ·rw [if_neg q0, if_neg q0]
  clear CF
  by_cases q1 : I < 0
  ·have e1 : I' = 0 := by omega
   by_cases q2 : nn < J
   ·have e2 : J' = nn := by omega
    subst e1 e2
    clear hI' hJ'
    go_enter Tryz.func49, Tryz.ntmps49
    go_wp2_with fail
    refine (CL.out _ F.out.tobj F.out.stay).mono ?_
    rintro e w1 ⟨rfl, rfl⟩
    go_wp2
    exact bodyPost_ret (v := .agg #[.int .i64 0, .int .u64 0, .int .u64 0]) (by simp [results, Tryz.results49, go_sem]) rfl ⟨rfl, HC.out.alloc _, (Keeps.refl _ w).alloc _⟩
   ·have e2 : J' = J := by omega
    subst e1 e2
    clear hI' hJ'
    go_enter Tryz.func49, Tryz.ntmps49
    go_wp2_with fail
    refine (CL.out _ F.out.tobj F.out.stay).mono ?_
    rintro e w1 ⟨rfl, rfl⟩
    go_wp2
    exact bodyPost_ret (v := .agg #[.int .i64 0, .int .u64 0, .int .u64 0]) (by simp [results, Tryz.results49, go_sem]) rfl ⟨rfl, HC.out.alloc _, (Keeps.refl _ w).alloc _⟩
  ·have e1 : I' = I := by omega
   by_cases q2 : nn < J
   ·have e2 : J' = nn := by omega
    subst e1 e2
    clear hI' hJ'
    go_enter Tryz.func49, Tryz.ntmps49
    go_wp2_with fail
    refine (CL.out _ F.out.tobj F.out.stay).mono ?_
    rintro e w1 ⟨rfl, rfl⟩
    go_wp2
    exact bodyPost_ret (v := .agg #[.int .i64 0, .int .u64 0, .int .u64 0]) (by simp [results, Tryz.results49, go_sem]) rfl ⟨rfl, HC.out.alloc _, (Keeps.refl _ w).alloc _⟩
   ·have e2 : J' = J := by omega
    subst e1 e2
    clear hI' hJ'
    go_enter Tryz.func49, Tryz.ntmps49
    go_wp2_with fail
    refine (CL.out _ F.out.tobj F.out.stay).mono ?_
    rintro e w1 ⟨rfl, rfl⟩
    go_wp2
    exact bodyPost_ret (v := .agg #[.int .i64 0, .int .u64 0, .int .u64 0]) (by simp [results, Tryz.results49, go_sem]) rfl ⟨rfl, HC.out.alloc _, (Keeps.refl _ w).alloc _⟩
def TreeE (W : World) (tb : Nat) (jv : Value) (T : Tr En Tl) : Prop := ∃ p, TObjE W tb jv p ∧ IsTE W p T
theorem TreeE.keep {S : Nat → Prop} {W W' : World} {tb : Nat} {jv : Value} {T : Tr En Tl} (h : TreeE W tb jv T) (kk : Keeps S W W') (ht : ¬ S tb) (hS : ∀ i cs, W.heap[i]? = some (.cells cs 172 (0, 0)) → ¬ S i) : TreeE W' tb jv T := by
 obtain ⟨p, h1, h2⟩ := h
 exact ⟨p, blk_keep h1 kk ht, h2.on ((Stay.refl _ _).keeps kk hS)⟩
theorem TreeE.below {W W' : World} {tb : Nat} {jv : Value} {T : Tr En Tl} (h : TreeE W tb jv T) (b : Below W.heap.size W W') : TreeE W' tb jv T := by
 obtain ⟨p, h1, h2⟩ := h
 exact ⟨p, blk_on h1 b, h2.on (fun _ _ e => blk_on e b)⟩
theorem TreeE.lt {W : World} {tb : Nat} {jv : Value} {T : Tr En Tl} (h : TreeE W tb jv T) : tb < W.heap.size := by
 obtain ⟨p, h1, h2⟩ := h
 exact lt_of_blk h1
theorem TreeE.onC {W W' : World} {tb n : Nat} {jv : Value} {T : Tr En Tl} {c : Option Nat} (h : TreeE W tb jv T) (hc : CntE c n W) (kk : Keeps (OnC c) W W') : TreeE W' tb jv T := by
 obtain ⟨p, h1, h2⟩ := h
 exact ⟨p, h1.onC hc kk, h2.on ((Stay.refl _ _).onE hc kk (by decide))⟩
theorem ynewE (fn : Fn) (first cap : Array Value) (w : World) :
    Calls Tryz.prog 88 #[.agg #[.int .i64 0, .int .u64 0, .int .u64 0], .func fn first cap] w fun e w' => ∃ tb, e = .returned (.pointer (some ⟨tb, 0, none⟩)) ∧ TreeE w' tb (.func fn first cap) .nil ∧ Below w.heap.size w w' ∧ w.heap.size ≤ tb :=
 (newE fn first cap w).mono fun e w' ⟨tb, h1, h2, h3, h4⟩ => ⟨tb, h1, ⟨none, h2, rfl⟩, h3, h4⟩
theorem yputE (k : ByteArray) (v : En) (s : Tl) {jv : Value} {c : Option Nat} {W : World} {tb n m : Nat} {T : Tr En Tl} (h : TreeE W tb jv T) (HB : BothOkE jv c) (hc : CntE c n W) (g : Gd tSz T m) (hm : m + 1 + tSz s ≤ 281474976710655) :
    Calls Tryz.prog 91 #[.pointer (some ⟨tb, 0, none⟩), .string k, .agg #[.string v.k, .int .i64 v.c, .int .i64 v.n, .string v.v, .bool v.d], .agg #[.int .i64 s.n, .int .u64 s.a, .int .u64 s.b]] W fun e w' => e = .returned (.tuple #[.agg #[.string ((Tr.found k T).val eNone).k, .int .i64 ((Tr.found k T).val eNone).c, .int .i64 ((Tr.found k T).val eNone).n, .string ((Tr.found k T).val eNone).v, .bool ((Tr.found k T).val eNone).d], .bool (!(Tr.found k T).isNil)]) ∧ TreeE w' tb jv (Tr.put k v s T) ∧ CntE c (n + Tr.putC k v s T) w' ∧ Keeps (fun x => x = tb ∨ OnC c x) W w' := by
 obtain ⟨p, h1, h2⟩ := h
 exact putE HB k v s h1 hc h2 (by have := g.ht (by omega); omega) (by have := g.cnt; omega) (g.room hm)
theorem ylenE {jv : Value} {W : World} {tb : Nat} {T : Tr En Tl} (h : TreeE W tb jv T) :
    Calls Tryz.prog 82 #[.pointer (some ⟨tb, 0, none⟩)] W fun e w' => e = .returned (.int .i64 (T.cnt : Int)) ∧ w' = W := by
 obtain ⟨p, h1, h2⟩ := h
 exact lenE h1 h2
theorem yfoldE (I J : Int) {jv : Value} {c : Option Nat} {W : World} {tb n m : Nat} {T : Tr En Tl} (h : TreeE W tb jv T) (HB : BothOkE jv c) (hc : CntE c n W) (g : Gd tSz T m) (hm : m ≤ 281474976710655) :
    Calls Tryz.prog 49 #[.pointer (some ⟨tb, 0, none⟩), .int .i64 I, .int .i64 J] W fun e w' => e = .returned (.agg #[.int .i64 (Tr.fol tJoin tZero T I J).n, .int .u64 (Tr.fol tJoin tZero T I J).a, .int .u64 (Tr.fol tJoin tZero T I J).b]) ∧ CntE c (n + Tr.folC T I J) w' ∧ Keeps (OnC c) W w' := by
 obtain ⟨p, h1, h2⟩ := h
 exact foldsE HB I J h1 hc h2 (by have := g.wt; omega)
theorem yrankE (k : ByteArray) {jv : Value} {W : World} {tb m : Nat} {T : Tr En Tl} (h : TreeE W tb jv T) (g : Gd tSz T m) (hm : m ≤ 281474976710655) :
    Calls Tryz.prog 80 #[.pointer (some ⟨tb, 0, none⟩), .string k] W fun e w' => e = .returned (.int .i64 (Tr.lower k T : Int)) ∧ Below W.heap.size W w' := by
 obtain ⟨p, h1, h2⟩ := h
 exact rankE k h1 h2 (by have := g.ht hm; omega) (by have := g.cnt; omega)
def jvE (g : Nat) : Value := .func (.func 89) #[.pointer (some ⟨g, 0, none⟩)] #[]
theorem bothJv (g : Nat) : BothOkE (jvE g) (some g) := bothE g
structure IsSt (w : World) (sb g tb : Nat) (nd ck : Int) (T : Tr En Tl) (n : Nat) : Prop where
 blk : w.heap[sb]? = some (.cells #[.int .i64 nd, .int .i64 ck, .pointer (some ⟨g, 0, none⟩), .pointer (some ⟨tb, 0, none⟩)] 109 (0, 0))
 cnt : CntE (some g) n w
 tree : TreeE w tb (jvE g) T
def Of (sb g tb : Nat) : Nat → Prop := fun x => x = sb ∨ x = tb ∨ x = g
theorem quad {w : World} {i : Nat} {a b c d : Value} {T : TypeId} (h : w.heap[i]? = some (.cells #[a, b, c, d] T (0, 0))) :
    w.cell? ⟨i, 0, none⟩ = some a ∧ w.cell? ⟨i, 1, none⟩ = some b ∧ w.cell? ⟨i, 2, none⟩ = some c ∧ w.cell? ⟨i, 3, none⟩ = some d ∧ w.frozen? ⟨i, 1, none⟩ = false :=
 ⟨by simp [World.cell?, h], by simp [World.cell?, h], by simp [World.cell?, h], by simp [World.cell?, h], frozen_of_row w i 1 _ _ h⟩
theorem IsSt.below {w w' : World} {sb g tb : Nat} {nd ck : Int} {T : Tr En Tl} {n : Nat} (h : IsSt w sb g tb nd ck T n) (b : Below w.heap.size w w') : IsSt w' sb g tb nd ck T n :=
 ⟨blk_on h.blk b, h.cnt.below b, h.tree.below b⟩
theorem IsSt.drew {w : World} {sb g tb : Nat} {nd ck : Int} {T : Tr En Tl} {n : Nat} (h : IsSt w sb g tb nd ck T n) : IsSt w.drew sb g tb nd ck T n := h.below ((Below.refl _ _).drew)
theorem IsSt.alloc {w : World} {sb g tb : Nat} {nd ck : Int} {T : Tr En Tl} {n : Nat} (h : IsSt w sb g tb nd ck T n) (o : Obj) : IsSt (w.alloc o) sb g tb nd ck T n := h.below (bnew _ _)
theorem IsSt.lt {w : World} {sb g tb : Nat} {nd ck : Int} {T : Tr En Tl} {n : Nat} (h : IsSt w sb g tb nd ck T n) : sb < w.heap.size ∧ g < w.heap.size ∧ tb < w.heap.size :=
 ⟨lt_of_blk h.blk, lt_of_blk (h.cnt g rfl), h.tree.lt⟩
theorem IsSt.apart {w : World} {sb g tb : Nat} {nd ck : Int} {T : Tr En Tl} {n : Nat} (h : IsSt w sb g tb nd ck T n) : sb ≠ g ∧ sb ≠ tb ∧ tb ≠ g := by
 obtain ⟨p, ht, _⟩ := h.tree
 unfold TObjE at ht
 have h1 := h.blk
 have h2 := h.cnt g rfl
 refine ⟨?_, ?_, ?_⟩ <;> rintro rfl
 ·rw [h1] at h2; simp at h2
 ·rw [h1] at ht; simp at ht
 ·rw [ht] at h2; simp at h2
theorem IsSt.not {w : World} {sb g tb : Nat} {nd ck : Int} {T : Tr En Tl} {n : Nat} (h : IsSt w sb g tb nd ck T n) {i : Nat} {cs : Array Value} {U : TypeId} (hi : w.heap[i]? = some (.cells cs U (0, 0))) (h1 : U ≠ 109) (h2 : U ≠ 148) (h3 : U ≠ 175) : ¬ Of sb g tb i := by
 obtain ⟨p, ht, _⟩ := h.tree
 unfold TObjE at ht
 rintro (rfl | rfl | rfl)
 ·rw [h.blk] at hi; simp at hi; exact h1 hi.2.symm
 ·rw [ht] at hi; simp at hi; exact h2 hi.2.symm
 ·rw [h.cnt _ rfl] at hi; simp at hi; exact h3 hi.2.symm
theorem Lanes.apart {w : World} (L : Lanes w) {sb g tb : Nat} {nd ck : Int} {T : Tr En Tl} {n : Nat} (h : IsSt w sb g tb nd ck T n) : ¬ Of sb g tb 0 := by
 obtain ⟨p, ht, _⟩ := h.tree
 unfold TObjE at ht
 have h1 := L.c0
 rintro (e | e | e)
 ·have := h.blk; rw [← e] at this; simp [World.cell?, this] at h1
 ·rw [← e] at ht; simp [World.cell?, ht] at h1
 ·have := h.cnt g rfl; rw [← e] at this; simp [World.cell?, this] at h1
theorem Lanes.keeps {w w' : World} (L : Lanes w) {S : Nat → Prop} (k : Keeps S w w') (hS : ¬ S 0) : Lanes w' := by
 have h0 := L.pos
 have c : ∀ {i : Nat} {v : Value}, w.cell? ⟨0, i, none⟩ = some v → w'.cell? ⟨0, i, none⟩ = some v := fun {i v} e => (k.cell (p := ⟨0, i, none⟩) h0 hS).trans e
 exact ⟨c L.c0, c L.c1, c L.c2, c L.c3, c L.c4, c L.c5⟩
theorem Lanes.drew {w : World} (L : Lanes w) : Lanes w.drew := L.keep ((Below.refl _ _).drew)
theorem ret_i64 {a b : Int} (h : a = b) : Ending.returned (.int .i64 a) = .returned (.int .i64 b) := by rw [h]
def Vs.c2 (x y : Int) : Int := if y < x then 1 else if x < y then -1 else 0
def Vs.chk (c n : Int) : Int := if c < 1 ∨ 1099511627776 < c ∨ n < 0 ∨ 8 ≤ n then 30 else 0
theorem chk_bad1 {c : Int} (n : Int) (h : c < 1) : Vs.chk c n = 30 := by unfold Vs.chk; rw [if_pos (.inl h)]
theorem chk_bad2 {c : Int} (n : Int) (h : 1099511627776 < c) : Vs.chk c n = 30 := by unfold Vs.chk; rw [if_pos (.inr (.inl h))]
theorem chk_bad3 (c : Int) {n : Int} (h : n < 0) : Vs.chk c n = 30 := by unfold Vs.chk; rw [if_pos (.inr (.inr (.inl h)))]
theorem chk_bad4 (c : Int) {n : Int} (h : 8 ≤ n) : Vs.chk c n = 30 := by unfold Vs.chk; rw [if_pos (.inr (.inr (.inr h)))]
theorem chk_ok {c n : Int} (h1 : ¬ c < 1) (h2 : ¬ 1099511627776 < c) (h3 : ¬ n < 0) (h4 : ¬ 8 ≤ n) : Vs.chk c n = 0 := by unfold Vs.chk; rw [if_neg (by omega)]
def nodeB (n : Int) : Bool := decide (0 ≤ n) && decide (n < 8)
theorem node_no1 {n : Int} (h : n < 0) : nodeB n = false := by simp [nodeB]; omega
theorem node_no2 {n : Int} (h : 8 ≤ n) : nodeB n = false := by simp [nodeB]; omega
theorem node_yes {n : Int} (h1 : ¬ n < 0) (h2 : ¬ 8 ≤ n) : nodeB n = true := by simp [nodeB]; omega
set_option maxHeartbeats 400000 in
theorem isNode_any (n : Int) (w : World) : Calls Tryz.prog 112 #[.int .i64 n] w fun e w' => e = .returned (.bool (nodeB n)) ∧ w' = w := by
 by_cases h1 : n < 0
 ·have h1' : ¬ 0 ≤ n := by omega
  go_enter Tryz.func112, Tryz.ntmps112
  go_wp2
  go_ret
  exact ⟨ret_bool (by simp [nodeB]; omega), rfl⟩
 ·have h1' : 0 ≤ n := by omega
  go_enter Tryz.func112, Tryz.ntmps112
  go_wp2
  go_ret
  exact ⟨ret_bool (by simp [nodeB]; omega), rfl⟩
theorem isNode_at {n : Int} {q : Bool} (h : nodeB n = q) (w : World) : Calls Tryz.prog 112 #[.int .i64 n] w fun e w' => e = .returned (.bool q) ∧ w' = w := by
 subst h; exact isNode_any n w
set_option maxHeartbeats 800000 in
theorem checkVersion_any (c n : Int) (w : World) : Calls Tryz.prog 90 #[.agg #[.int .i64 c, .int .i64 n]] w fun e w' => e = .returned (.int .i64 (Vs.chk c n)) ∧ Below w.heap.size w w' := by
 by_cases h1 : c < 1
 ·go_enter Tryz.func90, Tryz.ntmps90
  go_wp2
  go_ret
  exact ⟨ret_i64 (chk_bad1 n h1).symm, bnew w _⟩
 by_cases h2 : 1099511627776 < c
 ·go_enter Tryz.func90, Tryz.ntmps90
  go_wp2
  go_ret
  exact ⟨ret_i64 (chk_bad2 n h2).symm, bnew w _⟩
 by_cases h3 : n < 0
 ·go_enter Tryz.func90, Tryz.ntmps90
  go_wp2_with (go_at_call 112; refine (isNode_at (node_no1 h3) _).mono ?_; rintro e w1 ⟨rfl, rfl⟩)
  go_ret
  exact ⟨ret_i64 (chk_bad3 c h3).symm, bnew w _⟩
 by_cases h4 : 8 ≤ n
 ·go_enter Tryz.func90, Tryz.ntmps90
  go_wp2_with (go_at_call 112; refine (isNode_at (node_no2 h4) _).mono ?_; rintro e w1 ⟨rfl, rfl⟩)
  go_ret
  exact ⟨ret_i64 (chk_bad4 c h4).symm, bnew w _⟩
 ·go_enter Tryz.func90, Tryz.ntmps90
  go_wp2_with (go_at_call 112; refine (isNode_at (node_yes h3 h4) _).mono ?_; rintro e w1 ⟨rfl, rfl⟩)
  go_ret
  exact ⟨ret_i64 (chk_ok (by omega) (by omega) (by omega) (by omega)).symm, bnew w _⟩
set_option maxHeartbeats 800000 in
theorem checkVersionRef_any (c n : Int) (w : World) : Calls Tryz.prog 86 #[.agg #[.int .i64 c, .int .i64 n]] w fun e w' => e = .returned (.int .i64 (Vs.chk c n)) ∧ Below w.heap.size w w' := by
 by_cases h1 : c < 1
 ·go_enter Tryz.func86, Tryz.ntmps86
  go_wp2
  go_ret
  exact ⟨ret_i64 (chk_bad1 n h1).symm, bnew w _⟩
 by_cases h2 : 1099511627776 < c
 ·go_enter Tryz.func86, Tryz.ntmps86
  go_wp2
  go_ret
  exact ⟨ret_i64 (chk_bad2 n h2).symm, bnew w _⟩
 by_cases h3 : n < 0
 ·go_enter Tryz.func86, Tryz.ntmps86
  go_wp2
  go_ret
  exact ⟨ret_i64 (chk_bad3 c h3).symm, bnew w _⟩
 by_cases h4 : 8 ≤ n
 ·go_enter Tryz.func86, Tryz.ntmps86
  go_wp2
  go_ret
  exact ⟨ret_i64 (chk_bad4 c h4).symm, bnew w _⟩
 ·go_enter Tryz.func86, Tryz.ntmps86
  go_wp2
  go_ret
  exact ⟨ret_i64 (chk_ok (by omega) (by omega) (by omega) (by omega)).symm, bnew w _⟩
theorem checkVersion_at {c n q : Int} (h : Vs.chk c n = q) (w : World) : Calls Tryz.prog 90 #[.agg #[.int .i64 c, .int .i64 n]] w fun e w' => e = .returned (.int .i64 q) ∧ Below w.heap.size w w' := by
 subst h; exact checkVersion_any c n w
theorem checkVersionRef_at {c n q : Int} (h : Vs.chk c n = q) (w : World) : Calls Tryz.prog 86 #[.agg #[.int .i64 c, .int .i64 n]] w fun e w' => e = .returned (.int .i64 q) ∧ Below w.heap.size w w' := by
 subst h; exact checkVersionRef_any c n w
def En.chk (e : En) : Int :=
 if (16 : Int) < e.k.size then 20 else if Vs.chk e.c e.n ≠ 0 then 30 else if (32 : Int) < e.v.size then 31 else bif (e.d && !e.v.toList.isEmpty) then 32 else 0
theorem En.chk_key {k : ByteArray} (c n : Int) (v : ByteArray) (d : Bool) (h : (16 : Int) < k.size) : En.chk ⟨k, c, n, v, d⟩ = 20 := by simp only [En.chk]; rw [if_pos h]
theorem En.chk_ver {k : ByteArray} {c n : Int} (v : ByteArray) (d : Bool) (h : ¬ (16 : Int) < k.size) (h2 : Vs.chk c n = 30) : En.chk ⟨k, c, n, v, d⟩ = 30 := by simp only [En.chk]; rw [if_neg h, if_pos (by rw [h2]; decide)]
theorem En.chk_val {k : ByteArray} {c n : Int} {v : ByteArray} (d : Bool) (h : ¬ (16 : Int) < k.size) (h2 : Vs.chk c n = 0) (h3 : (32 : Int) < v.size) : En.chk ⟨k, c, n, v, d⟩ = 31 := by
 simp only [En.chk]; rw [if_neg h, if_neg (by rw [h2]; decide), if_pos h3]
theorem En.chk_rest {k : ByteArray} {c n : Int} {v : ByteArray} (d : Bool) (h : ¬ (16 : Int) < k.size) (h2 : Vs.chk c n = 0) (h3 : ¬ (32 : Int) < v.size) : En.chk ⟨k, c, n, v, d⟩ = bif (d && !v.toList.isEmpty) then 32 else 0 := by
 simp only [En.chk]; rw [if_neg h, if_neg (by rw [h2]; decide), if_neg h3]
theorem Vs.chk_two (c n : Int) : Vs.chk c n = 30 ∨ Vs.chk c n = 0 := by
 unfold Vs.chk; split
 ·exact .inl rfl
 ·exact .inr rfl
set_option maxHeartbeats 1600000 in
theorem ichk_any (k : ByteArray) (c n : Int) (v : ByteArray) (d : Bool) (w : World) :
    Calls Tryz.prog 56 #[.agg #[.string k, .int .i64 c, .int .i64 n, .string v, .bool d]] w fun e w' => e = .returned (.int .i64 (En.chk ⟨k, c, n, v, d⟩)) ∧ Below w.heap.size w w' := by
 by_cases h1 : (16 : Int) < k.size
 ·go_enter Tryz.func56, Tryz.ntmps56
  go_wp2
  go_ret
  exact ⟨ret_i64 (En.chk_key c n v d h1).symm, bnew w _⟩
 rcases Vs.chk_two c n with h2 | h2
 ·have H2 := aside h2
  go_enter Tryz.func56, Tryz.ntmps56
  go_wp2_with (go_at_call 90; refine (checkVersion_at H2.out _).mono ?_; rintro e w1 ⟨rfl, b1⟩)
  go_ret
  exact ⟨ret_i64 (En.chk_ver v d (by omega) H2.out).symm, bthen (bnew w _) b1⟩
 have H2 := aside h2
 clear h2
 have X := fun o => (heap_alloc_new w o)
 have HX := aside X
 clear X
 by_cases h3 : (32 : Int) < v.size
 ·go_enter Tryz.func56, Tryz.ntmps56
  go_wp2_with fail
  refine (checkVersion_at H2.out _).mono ?_
  rintro e w1 ⟨rfl, b1⟩
  have c3 : w1.cell? ⟨w.heap.size, 3, none⟩ = some (.string v) := (b1.cell (by simp)).trans (by rw [cell_of_row _ w.heap.size 3 _ _ _ (HX.out _)]; rfl)
  go_wp2
  go_ret
  exact ⟨ret_i64 (En.chk_val d (by omega) H2.out (by omega)).symm, bthen (bnew w _) b1⟩
 ·cases d <;> cases h5 : v.toList.isEmpty
  all_goals
   go_enter Tryz.func56, Tryz.ntmps56
   go_wp2_with fail
   refine (checkVersion_at H2.out _).mono ?_
   rintro e w1 ⟨rfl, b1⟩
   have c3 : w1.cell? ⟨w.heap.size, 3, none⟩ = some (.string v) := (b1.cell (by simp)).trans (by rw [cell_of_row _ w.heap.size 3 _ _ _ (HX.out _)]; rfl)
   first
    | have c4 : w1.cell? ⟨w.heap.size, 4, none⟩ = some (.bool true) := (b1.cell (by simp)).trans (by rw [cell_of_row _ w.heap.size 4 _ _ _ (HX.out _)]; rfl)
    | have c4 : w1.cell? ⟨w.heap.size, 4, none⟩ = some (.bool false) := (b1.cell (by simp)).trans (by rw [cell_of_row _ w.heap.size 4 _ _ _ (HX.out _)]; rfl)
   go_wp2
   go_ret
   exact ⟨ret_i64 (by rw [En.chk_rest _ (by omega) H2.out (by omega), h5]; rfl), bthen (bnew w _) b1⟩
set_option maxHeartbeats 1600000 in
theorem ichkRef_any (k : ByteArray) (c n : Int) (v : ByteArray) (d : Bool) (w : World) :
    Calls Tryz.prog 54 #[.agg #[.string k, .int .i64 c, .int .i64 n, .string v, .bool d]] w fun e w' => e = .returned (.int .i64 (En.chk ⟨k, c, n, v, d⟩)) ∧ Below w.heap.size w w' := by
 by_cases h1 : (16 : Int) < k.size
 ·go_enter Tryz.func54, Tryz.ntmps54
  go_wp2
  go_ret
  exact ⟨ret_i64 (En.chk_key c n v d h1).symm, bnew w _⟩
 rcases Vs.chk_two c n with h2 | h2
 ·have H2 := aside h2
  go_enter Tryz.func54, Tryz.ntmps54
  go_wp2_with (go_at_call 86; refine (checkVersionRef_at H2.out _).mono ?_; rintro e w1 ⟨rfl, b1⟩)
  go_ret
  exact ⟨ret_i64 (En.chk_ver v d (by omega) H2.out).symm, bthen (bnew w _) b1⟩
 have H2 := aside h2
 clear h2
 have X := fun o => (heap_alloc_new w o)
 have HX := aside X
 clear X
 by_cases h3 : (32 : Int) < v.size
 ·go_enter Tryz.func54, Tryz.ntmps54
  go_wp2_with fail
  refine (checkVersionRef_at H2.out _).mono ?_
  rintro e w1 ⟨rfl, b1⟩
  have c3 : w1.cell? ⟨w.heap.size, 3, none⟩ = some (.string v) := (b1.cell (by simp)).trans (by rw [cell_of_row _ w.heap.size 3 _ _ _ (HX.out _)]; rfl)
  go_wp2
  go_ret
  exact ⟨ret_i64 (En.chk_val d (by omega) H2.out (by omega)).symm, bthen (bnew w _) b1⟩
 ·cases d <;> cases h5 : v.toList.isEmpty
  all_goals
   go_enter Tryz.func54, Tryz.ntmps54
   go_wp2_with fail
   refine (checkVersionRef_at H2.out _).mono ?_
   rintro e w1 ⟨rfl, b1⟩
   have c3 : w1.cell? ⟨w.heap.size, 3, none⟩ = some (.string v) := (b1.cell (by simp)).trans (by rw [cell_of_row _ w.heap.size 3 _ _ _ (HX.out _)]; rfl)
   first
    | have c4 : w1.cell? ⟨w.heap.size, 4, none⟩ = some (.bool true) := (b1.cell (by simp)).trans (by rw [cell_of_row _ w.heap.size 4 _ _ _ (HX.out _)]; rfl)
    | have c4 : w1.cell? ⟨w.heap.size, 4, none⟩ = some (.bool false) := (b1.cell (by simp)).trans (by rw [cell_of_row _ w.heap.size 4 _ _ _ (HX.out _)]; rfl)
   go_wp2
   go_ret
   exact ⟨ret_i64 (by rw [En.chk_rest _ (by omega) H2.out (by omega), h5]; rfl), bthen (bnew w _) b1⟩
end Go.Proofs.YtpbkjffiohfkcaaGreatDoor
namespace Go.Proofs.YtpbkjffiohfkcaaGreatDoor
open Go.RowKit
structure Rg where
 lo : ByteArray
 hi : ByteArray
 op : Bool
namespace Rg
def val (r : Rg) : Value := .agg #[.string r.lo, .string r.hi, .bool r.op]
def chk (r : Rg) : Int :=
 if 16 < (r.lo.size : Int) ∨ 16 < (r.hi.size : Int) then 20
 else if (r.op && !r.hi.toList.isEmpty) || (!r.op && (!Op.bytesLess r.lo.toList r.hi.toList && !(r.lo.toList == r.hi.toList))) then 21 else 0
def may (r : Rg) : Bool := chk r == 0
def emp (r : Rg) : Bool := !r.may || (!r.op && (r.lo.toList == r.hi.toList))
def has (r : Rg) (k : ByteArray) : Bool := r.may && decide ((k.size : Int) ≤ 16) && !Op.bytesLess k.toList r.lo.toList && (r.op || Op.bytesLess k.toList r.hi.toList)
def mx (a b : ByteArray) : ByteArray := bif Op.bytesLess a.toList b.toList then b else a
def both (a b : Rg) : Rg := ⟨mx a.lo b.lo, bif a.op || (!b.op && Op.bytesLess b.hi.toList a.hi.toList) then b.hi else a.hi, bif a.op || (!b.op && Op.bytesLess b.hi.toList a.hi.toList) then b.op else a.op⟩
def meet (a b : Rg) : Option Rg := if a.emp || b.emp || (both a b).emp then none else some (both a b)
end Rg
end Go.Proofs.YtpbkjffiohfkcaaGreatDoor
namespace Go.Proofs.YtpbkjffiohfkcaaGreatDoor
open Go.RowKit
set_option linter.unusedVariables false
theorem chk_shut {lo hi : ByteArray} (h1 : (lo.size : Int) ≤ 16) (h2 : (hi.size : Int) ≤ 16) :
    Rg.chk ⟨lo, hi, false⟩ = bif (!Op.bytesLess lo.toList hi.toList && !(lo.toList == hi.toList)) then 21 else 0 := by
 unfold Rg.chk; rw [if_neg (not_or.2 ⟨Int.not_lt.2 h1, Int.not_lt.2 h2⟩)]
 cases Op.bytesLess lo.toList hi.toList <;> cases (lo.toList == hi.toList) <;> rfl
theorem chk_open {lo hi : ByteArray} (h1 : (lo.size : Int) ≤ 16) (h2 : (hi.size : Int) ≤ 16) :
    Rg.chk ⟨lo, hi, true⟩ = bif hi.toList.isEmpty then 0 else 21 := by
 unfold Rg.chk; rw [if_neg (not_or.2 ⟨Int.not_lt.2 h1, Int.not_lt.2 h2⟩)]
 cases hi.toList.isEmpty <;> rfl
set_option maxHeartbeats 1600000 in
theorem check_any (lo hi : ByteArray) (op : Bool) (w : World) :
    Calls Tryz.prog 47 #[.agg #[.string lo, .string hi, .bool op]] w fun e w' => e = .returned (.int .i64 (Rg.chk ⟨lo, hi, op⟩)) ∧ Below w.heap.size w w' := by
 by_cases h1 : (16 : Int) < lo.size
 ·go_enter Tryz.func47, Tryz.ntmps47
  go_wp2
  go_ret
  exact ⟨ret_i64 (by simp [Rg.chk, h1]), (Below.refl _ w).alloc (Nat.le_refl _) _⟩
 ·by_cases h2 : (16 : Int) < hi.size
  ·go_enter Tryz.func47, Tryz.ntmps47
   go_wp2
   go_ret
   exact ⟨ret_i64 (by simp [Rg.chk, h2]), (Below.refl _ w).alloc (Nat.le_refl _) _⟩
  ·cases op
   ·cases h4 : Op.bytesLess lo.toList hi.toList <;> cases h5 : (lo.toList == hi.toList)
    all_goals
     go_enter Tryz.func47, Tryz.ntmps47
     go_wp2
     go_ret
     exact ⟨ret_i64 (by rw [chk_shut h1 h2, h4, h5]; rfl), (Below.refl _ w).alloc (Nat.le_refl _) _⟩
   ·cases h3 : hi.toList.isEmpty
    all_goals
     go_enter Tryz.func47, Tryz.ntmps47
     go_wp2
     go_ret
     exact ⟨ret_i64 (by rw [chk_open h1 h2, h3]; rfl), (Below.refl _ w).alloc (Nat.le_refl _) _⟩
set_option maxHeartbeats 1600000 in
theorem checkRef_any (lo hi : ByteArray) (op : Bool) (w : World) :
    Calls Tryz.prog 65 #[.agg #[.string lo, .string hi, .bool op]] w fun e w' => e = .returned (.int .i64 (Rg.chk ⟨lo, hi, op⟩)) ∧ Below w.heap.size w w' := by
 by_cases h1 : (16 : Int) < lo.size
 ·go_enter Tryz.func65, Tryz.ntmps65
  go_wp2
  go_ret
  exact ⟨ret_i64 (by simp [Rg.chk, h1]), (Below.refl _ w).alloc (Nat.le_refl _) _⟩
 ·by_cases h2 : (16 : Int) < hi.size
  ·go_enter Tryz.func65, Tryz.ntmps65
   go_wp2
   go_ret
   exact ⟨ret_i64 (by simp [Rg.chk, h2]), (Below.refl _ w).alloc (Nat.le_refl _) _⟩
  ·cases op
   ·cases h4 : Op.bytesLess lo.toList hi.toList <;> cases h5 : (lo.toList == hi.toList)
    all_goals
     go_enter Tryz.func65, Tryz.ntmps65
     go_wp2
     go_ret
     exact ⟨ret_i64 (by rw [chk_shut h1 h2, h4, h5]; rfl), (Below.refl _ w).alloc (Nat.le_refl _) _⟩
   ·cases h3 : hi.toList.isEmpty
    all_goals
     go_enter Tryz.func65, Tryz.ntmps65
     go_wp2
     go_ret
     exact ⟨ret_i64 (by rw [chk_open h1 h2, h3]; rfl), (Below.refl _ w).alloc (Nat.le_refl _) _⟩
set_option maxHeartbeats 1600000 in
theorem mayBe_any (lo hi : ByteArray) (op : Bool) (w : World) :
    Calls Tryz.prog 102 #[.agg #[.string lo, .string hi, .bool op]] w fun e w' => e = .returned (.bool (Rg.may ⟨lo, hi, op⟩)) ∧ Below w.heap.size w w' := by
 go_enter Tryz.func102, Tryz.ntmps102
 go_wp2_with (go_at_call 47; refine (check_any _ _ _ _).mono ?_; rintro e w1 ⟨rfl, b1⟩)
 go_ret
 exact ⟨ret_bool rfl, bthen (bnew w _) b1⟩
end Go.Proofs.YtpbkjffiohfkcaaGreatDoor

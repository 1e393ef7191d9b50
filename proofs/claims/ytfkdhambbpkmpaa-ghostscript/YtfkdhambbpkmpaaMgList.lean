/-
  Lists that a loop over pairs makes.
-/
import Derived.Test.YtfkdhambbpkmpaaMgSide
import Derived.Test.YtfkdhambbpkmpaaMgEq
import Derived.Test.YtfkdhambbpkmpaaYTrOrders
namespace Go.Proofs.Ytfkdhambbpkmpaa
open Go.RowKit Go.Shelf
set_option linter.unusedVariables false
/-- A list of entries in the variable at vb, its row laid from B on. -/
structure LstG (B : Nat) (vb : Nat) (l : List En) (X : World) : Prop where
  ex : ∃ v, X.heap[vb]? = some (.cells #[v] 32 (0, 0)) ∧ X.ownsRow B 31 5 v l.length (entCells l)
theorem ownsRow_ownM {A B' : World} {row : Option Nat} {base : Nat} {e : TypeId} {size : Nat} {v : Value} {n : Nat} {xs : List Value} (h : A.ownsRow base e size v n xs) (hg : A.grownBy B' row) (hr : ∀ r, row = some r → ∃ o : Obj, A.heap[r]? = some o ∧ o.isCells = false) : B'.ownsRow base e size v n xs := by
  refine ⟨h.1, ?_⟩
  rcases h.2 with hn | ⟨g, cap, cur, rfl, hb, hgk, r⟩
  · exact .inl hn
  · exact .inr ⟨g, cap, cur, rfl, hb, cells_ownM hgk hg hr, r⟩
theorem LstG.own {B vb : Nat} {l : List En} {A X : World} {row : Option Nat} (h : LstG B vb l A) (hg : A.grownBy X row) (hr : ∀ r, row = some r → ∃ o : Obj, A.heap[r]? = some o ∧ o.isCells = false) : LstG B vb l X := by
  obtain ⟨v, h1, h2⟩ := h.ex
  exact ⟨v, cells_ownM h1 hg hr, ownsRow_ownM h2 hg hr⟩
/-- The block of a row. -/
theorem row_blkM {X : World} {B n : Nat} {e : TypeId} {s : Nat} {v : Value} {xs : List Value} (h : X.ownsRow B e s v n xs) {r : Nat} (hr : v.ownBlock = some r) : B ≤ r ∧ ∃ cs, X.heap[r]? = some (.cells cs e (0, 0)) := by
  rcases h.2 with ⟨rfl, -⟩ | ⟨g, cap, cur, rfl, hb, hgk, -⟩
  · cases hr
  · cases hr; exact ⟨hb, _, hgk⟩
theorem side_seq {Ba Bb : Nat} {a : Option Addr} {la ca : Nat} {A : Nat → En} {b : Option Addr} {lb cb : Nat} {B : Nat → En} {w : World} (hS : SD Ba Bb a la ca A b lb cb B w) : SeqO Try.prog 37 #[.pointer (some ⟨Ba, 0, none⟩), .pointer (some ⟨Bb, 0, none⟩)] encP (KpS Ba Bb a la ca A b lb cb B) (fun ys => ys = prs (firstE A la) (firstE B lb)) (fun pre => ∃ r, pre ++ r = prs (firstE A la) (firstE B lb)) (prs (firstE A la) (firstE B lb)).length w :=
  fun m l J Jx W hW hJ hJx hY h0 => callsIn_wide.1 (side_in (m + 1) (by omega) l Ba Bb a la ca A b lb cb B J Jx (fun pre x W1 hp hl => (hY pre x W1 hp hl).mono (fun _ _ h => h.2)) W (ownFrom_abides hJ) (hS.keep hW) h0)
/-- A list of cells in the variable at vb, its row of elements of type e, s cells each, laid from B on. -/
structure LstC (B vb : Nat) (tv e : TypeId) (s n : Nat) (cs : List Value) (X : World) : Prop where
  ex : ∃ v, X.heap[vb]? = some (.cells #[v] tv (0, 0)) ∧ X.ownsRow B e s v n cs
theorem LstC.own {B vb : Nat} {tv e : TypeId} {s n : Nat} {cs : List Value} {A X : World} {row : Option Nat} (h : LstC B vb tv e s n cs A) (hg : A.grownBy X row) (hr : ∀ r, row = some r → ∃ o : Obj, A.heap[r]? = some o ∧ o.isCells = false) : LstC B vb tv e s n cs X := by
  obtain ⟨v, h1, h2⟩ := h.ex
  exact ⟨v, cells_ownM h1 hg hr, ownsRow_ownM h2 hg hr⟩
/-- What a loop over pairs keeps: its list, what was there, what the iterator reads. -/
structure LpC (w : World) (vb : Nat) (tv e : TypeId) (s n : Nat) (cs : List Value) (Ba Bb : Nat) (a : Option Addr) (la ca : Nat) (A : Nat → En) (b : Option Addr) (lb cb : Nat) (B : Nat → En) (X : World) : Prop where
  lst : LstC w.heap.size vb tv e s n cs X
  below : Below w.heap.size w X
  sd : SD Ba Bb a la ca A b lb cb B X
theorem LpC.own {w : World} {vb : Nat} {tv e : TypeId} {s n : Nat} {cs : List Value} {Ba Bb : Nat} {a : Option Addr} {la ca : Nat} {A : Nat → En} {b : Option Addr} {lb cb : Nat} {B : Nat → En} {X Y : World} {C : Nat} {row : Option Nat} (hC : w.heap.size ≤ C) (h : LpC w vb tv e s n cs Ba Bb a la ca A b lb cb B X) (hg : X.grownBy Y row) (hr : ∀ r, row = some r → C ≤ r ∧ ∃ o : Obj, X.heap[r]? = some o ∧ o.isCells = false) : LpC w vb tv e s n cs Ba Bb a la ca A b lb cb B Y :=
  ⟨h.lst.own hg (fun r e => (hr r e).2), h.below.grown hg h.below.size (fun k e => by have := (hr k e).1; omega), h.sd.own hg (fun r e => (hr r e).2)⟩
theorem LpC.keep {w : World} {vb : Nat} {tv e : TypeId} {s n : Nat} {cs : List Value} {Ba Bb : Nat} {a : Option Addr} {la ca : Nat} {A : Nat → En} {b : Option Addr} {lb cb : Nat} {B : Nat → En} {X Y : World} (h : LpC w vb tv e s n cs Ba Bb a la ca A b lb cb B X) (bb : Below X.heap.size X Y) : LpC w vb tv e s n cs Ba Bb a la ca A b lb cb B Y :=
  h.own (C := w.heap.size) (Nat.le_refl _) (grown_below bb) (fun r e => by cases e)
/-- One element more. -/
theorem LpC.add {w : World} {vb C : Nat} {tv e : TypeId} {s n : Nat} {cs news : List Value} {Ba Bb : Nat} {a : Option Addr} {la ca : Nat} {A : Nat → En} {b : Option Addr} {lb cb : Nat} {B : Nat → En} {X X1 : World} {v v' : Value} {o : Obj} (hA : EntsIn w a la ca A) (hB : EntsIn w b lb cb B) (hne : tv ≠ e) (hEL : e ≠ 32) (hvb : w.heap.size ≤ vb) (hva : Ba ≠ vb) (hvbb : Bb ≠ vb)
    (hb : Below w.heap.size w X) (sd : SD Ba Bb a la ca A b lb cb B X) (h1 : X.heap[vb]? = some (.cells #[v] tv (0, 0))) (h2 : X.ownsRow w.heap.size e s v n cs)
    (ho : X1.ownsRow w.heap.size e s v' (n + 1) (cs ++ news)) (hg : (X.alloc o).grownBy X1 v.ownBlock) :
    X1.heap[vb]? = some (.cells #[v] tv (0, 0)) ∧ LpC w vb tv e s (n + 1) (cs ++ news) Ba Bb a la ca A b lb cb B (X1.setCell ⟨vb, 0, none⟩ v') ∧ KeepsFrom C X (X1.setCell ⟨vb, 0, none⟩ v') := by
  have hnb : ∀ {k : Nat} {c : Array Value} {t : TypeId}, X.heap[k]? = some (.cells c t (0, 0)) → t ≠ e → some k ≠ v.ownBlock := fun hk ht er => by
    obtain ⟨-, cs', h3⟩ := row_blkM h2 er.symm
    rw [hk] at h3
    simp at h3
    exact ht h3.2
  have stay : ∀ {k : Nat} {c : Array Value} {t : TypeId}, X.heap[k]? = some (.cells c t (0, 0)) → t ≠ e → X1.heap[k]? = some (.cells c t (0, 0)) := fun hk ht => by
    rw [hg.block _ (by have := (Array.getElem?_eq_some_iff.1 hk).1; simp; omega) (hnb hk ht)]
    exact blk_on hk (bnew _ _)
  have hvb1 := stay h1 hne
  have hB3 : Below w.heap.size w (X1.setCell ⟨vb, 0, none⟩ v') := (((hb.alloc hb.size o).grown hg (by have := hb.size; simp; omega) (fun j e => (row_blkM h2 e).1)).setCell (p := ⟨vb, 0, none⟩) hvb _)
  refine ⟨hvb1, ⟨⟨v', by rw [heap_setCell_same X1 vb 0 _ _ v' hvb1]; rfl, ?_⟩, hB3, ⟨?_, ?_, hA.keep hB3, hB.keep hB3⟩⟩, ?_⟩
  · refine ownsRow_keep (S := fun i => i = vb) ho ((Keeps.refl (fun i => i = vb) X1).setCell (p := ⟨vb, 0, none⟩) (fun _ => rfl) _) (fun j e1 e2 => ?_)
    subst e2
    obtain ⟨-, cs', h3⟩ := row_blkM ho e1
    rw [hvb1] at h3; simp at h3
    exact hne h3.2
  · rw [Below.heap_setCell _ _ _ _ hva]; exact stay sd.xa (Ne.symm hEL)
  · rw [Below.heap_setCell _ _ _ _ hvbb]; exact stay sd.xb (Ne.symm hEL)
  · have k1 : KeepsFrom C (X.alloc o) X1 := ⟨hg.size, fun i ob _ hi hob => (hg.block i (Array.getElem?_eq_some_iff.1 hi).1 (fun e => by
      obtain ⟨-, cs', h3⟩ := row_blkM h2 e.symm
      rw [blk_on h3 (bnew _ _)] at hi
      injection hi with hi
      subst hi
      cases hob)).trans hi⟩
    exact ((KeepsFrom.of_grownBy (World.grownBy_alloc X o none) (fun j e => by cases e)).trans k1).trans ((KeepsOthers.setCell _ _ _).from _)
theorem wpIn_region_until {P : Program} {id : Nat} {ops : Array Oper} {Q : Exit → Act → World → Prop} {S : World → Prop} {z : Nat} {a : Act} {w : World} {l n : Nat} (hm : P.follows .mixedOrders = true) (hd : noDefer ops = true) (hQ : ¬ LetsOut Q) (hS : S w.drew)
    (h : S w.drew → Until P .any ops Q S z ops.size (Array.replicate ops.size false) a w.drew) : (Code.region id ops true).wpIn (Fence.wide.inRound l) n P Q a w :=
  wpIn_region_any hm (wpAnyIn_round l n (noDefer_spec hd) hQ _ _ _ _ (Until.any _ _ _ _ (h hS)))
theorem kf_below {C : Nat} {X Y : World} (h : Below X.heap.size X Y) : KeepsFrom C X Y := KeepsFrom.of_grownBy (grown_below h) (fun j e => by cases e)
/-- What came of it, if nothing was wrong. -/
def outL {α : Type} (q : Int) (l : List α) : List α := if q = 0 then l else []
theorem outL_ok {α : Type} {q : Int} (l : List α) (h : q = 0) : outL q l = l := by unfold outL; rw [if_pos h]
theorem outL_bad {α : Type} {q : Int} (l : List α) (h : q ≠ 0) : outL q l = [] := by unfold outL; rw [if_neg h]
/-- What a call answers: a list of its own, and the error. -/
def Says (w : World) (q : Int) (l : List En) (e : Ending) (w' : World) : Prop := ∃ v, e = .returned (.tuple #[v, .int .i64 q]) ∧ w'.ownsRow w.heap.size 31 5 v l.length (entCells l) ∧ Below w.heap.size w w'
theorem newer_en (x y : En) (w : World) {q : Bool} (h : En.newer x y = q) : Calls Try.prog 31 #[.agg #[.string x.k, .int .i64 x.c, .int .i64 x.n, .string x.v, .bool x.d], .agg #[.string y.k, .int .i64 y.c, .int .i64 y.n, .string y.v, .bool y.d]] w fun e w' => e = .returned (.bool q) ∧ Below w.heap.size w w' := newer_any _ _ _ _ _ _ _ _ _ _ q w h
end Go.Proofs.Ytfkdhambbpkmpaa

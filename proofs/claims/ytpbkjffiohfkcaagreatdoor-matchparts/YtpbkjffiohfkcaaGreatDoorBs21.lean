/-
  Entries and versions compared.
-/
import Derived.Test.YtpbkjffiohfkcaaGreatDoorBs17
import Derived.Laws.StructEq
import Derived.Test.YtpbkjffiohfkcaaGreatDoorBs1
import Derived.OrdersHeld
import Derived.Deep.RegionHeld
import Derived.Test.YtpbkjffiohfkcaaGreatDoorBs20
import Derived.Test.YtpbkjffiohfkcaaGreatDoorBs14
import Derived.Test.YtpbkjffiohfkcaaGreatDoorBs15
import Derived.Test.YtpbkjffiohfkcaaGreatDoorBs3
import Derived.Test.YtpbkjffiohfkcaaGreatDoorBs2
import Derived.Deep.RegionWith
namespace Go.Proofs.YtpbkjffiohfkcaaGreatDoor
open Go.RowKit
set_option linter.unusedVariables false
def enEqB (a b : En) : Bool := (a.k.toList == b.k.toList) && ((a.c == b.c && a.n == b.n) && ((a.v.toList == b.v.toList) && (a.d == b.d)))
theorem enEqB_iff (a b : En) : enEqB a b = true ↔ a = b := by
 obtain ⟨k, c, n, v, d⟩ := a
 obtain ⟨k', c', n', v', d'⟩ := b
 simp only [enEqB, Bool.and_eq_true, beq_iff_eq, En.mk.injEq]
 constructor
 ·rintro ⟨h1, ⟨h2, h3⟩, h4, h5⟩
  exact ⟨toList_inj h1, h2, h3, toList_inj h4, h5⟩
 ·rintro ⟨rfl, rfl, rfl, rfl, rfl⟩
  exact ⟨rfl, ⟨rfl, rfl⟩, rfl, rfl⟩
theorem enEqB_same (a : En) : enEqB a a = true := (enEqB_iff a a).2 rfl
theorem ent_in (a b : En) (w : World) : (Op.equalIn 10000 77 (.agg #[.string a.k, .int .i64 a.c, .int .i64 a.n, .string a.v, .bool a.d]) (.agg #[.string b.k, .int .i64 b.c, .int .i64 b.n, .string b.v, .bool b.d])).run Tryz.prog w = .ok (enEqB a b) w := by
 unfold enEqB
 rw [show (10000 : Nat) = 9999 + 1 from rfl]
 cases h1 : (a.k.toList == b.k.toList) <;> by_cases h2 : a.c = b.c <;> by_cases h5 : a.n = b.n <;> cases h3 : (a.v.toList == b.v.toList) <;> cases h4 : (a.d == b.d)
 all_goals
  go_simp
  try simp [h2, h5]
theorem ent_ne (a b : En) (w : World) : (binOp .neq 77 (.agg #[.string a.k, .int .i64 a.c, .int .i64 a.n, .string a.v, .bool a.d]) (.agg #[.string b.k, .int .i64 b.c, .int .i64 b.n, .string b.v, .bool b.d])).run Tryz.prog w = .ok (.bool (!enEqB a b)) w := by
 rw [run_neq_struct, ent_in]; rfl
end Go.Proofs.YtpbkjffiohfkcaaGreatDoor
namespace Go.Proofs.YtpbkjffiohfkcaaGreatDoor
open Go.RowKit
set_option linter.unusedVariables false
section
variable {P : Program} {ops : Array Oper} {Q : Exit → Act → World → Prop} {md : Region.Mode} {S : World → Prop} {z : Nat}
def Until (P : Program) (md : Region.Mode) (ops : Array Oper) (Q : Exit → Act → World → Prop) (S : World → Prop) (z : Nat) : Nat → Array Bool → Act → World → Prop
 | 0, listed, a, w => Region.ready md ops listed = [] ∧ Q .normal a w
 | f + 1, listed, a, w => (Region.ready md ops listed = [] → Q .normal a w) ∧ ∀ i ∈ Region.ready md ops listed,
     wpOp P ops Q i (fun a' w' => if i = z then wpAny P md ops Q f (listed.setIfInBounds i true) a' w' else S w' ∧ Until P md ops Q S z f (listed.setIfInBounds i true) a' w') a w
theorem Until.any : ∀ (f : Nat) (listed : Array Bool) (a : Act) (w : World), Until P md ops Q S z f listed a w → wpAny P md ops Q f listed a w
 | 0, _, _, _, h => h
 | f + 1, _, _, _, h => ⟨h.1, fun i hi => wpOp_mono (fun a' w' h' => by
     by_cases e : i = z
     ·rwa [if_pos e] at h'
     ·rw [if_neg e] at h'; exact Until.any f _ a' w' h'.2) (h.2 i hi)⟩
def waits (md : Region.Mode) (ops : Array Oper) (i : Nat) (U : List Nat) : Bool :=
 U.all fun u => match ops[u]? with
  | some o => o.after.any fun e => Region.binds md e && (e.on == i || U.contains e.on)
  | none => false
def unlisted (listed : Array Bool) (U : List Nat) : Prop := ∀ u ∈ U, listed.getD u true = false
theorem unlisted_dec {listed : Array Bool} {U : List Nat} (h : (U.all fun u => !(listed.getD u true)) = true) : unlisted listed U := by
 intro u hu
 have := List.all_eq_true.1 h u hu
 simpa using this
theorem getD_low {listed : Array Bool} {j : Nat} (h : listed.getD j true = false) : listed.getD j false = false := by
 rcases Nat.lt_or_ge j listed.size with h' | h'
 ·simp [h'] at h ⊢; exact h
 ·simp [Array.getElem?_eq_none h'] at h
theorem waits_not {i : Nat} {U : List Nat} {listed : Array Bool} (hw : waits md ops i U = true) (hi : listed.getD i true = false) (hU : unlisted listed U) : ∀ u ∈ U, u ∉ Region.ready md ops listed := by
 intro u hu hr
 obtain ⟨-, o, ho, hall⟩ := mem_ready.1 hr
 have h1 := List.all_eq_true.1 hw u hu
 rw [ho] at h1
 simp only [Array.any_eq_true', Bool.and_eq_true, Bool.or_eq_true, beq_iff_eq, List.contains_iff_mem] at h1
 obtain ⟨e, he, hb, hon⟩ := h1
 have h2 := hall e he hb
 have h3 : listed.getD e.on true = false := by
  rcases hon with hon | hon
  ·rw [hon]; exact hi
  ·exact hU _ hon
 rw [getD_low h3] at h2
 cases h2
theorem free_on {i j : Nat} {oi : Oper} {listed : Array Bool} (hjun : listed.getD j true = false)
    (hfree : ∀ k ok, ops[k]? = some ok → k ≠ i → listed.getD k true = false → (∀ e ∈ ok.after, Region.binds md e = true → e.on ≠ i) → oi.apart ops ok = true) :
    ∀ k ok, ops[k]? = some ok → k ≠ i → (listed.setIfInBounds j true).getD k true = false → (∀ e ∈ ok.after, Region.binds md e = true → e.on ≠ i) → oi.apart ops ok = true := by
 intro k ok hk hki hun hno
 refine hfree k ok hk hki ?_ hno
 by_cases e : j = k
 ·subst e; exact hjun
 ·rwa [getD_set_ne true e] at hun
theorem not_after {i j : Nat} {listed : Array Bool} (hi : listed.getD i true = false) {oj : Oper} (hall : ∀ e ∈ oj.after, Region.binds md e = true → listed.getD e.on false = true) : ∀ e ∈ oj.after, Region.binds md e = true → e.on ≠ i := by
 intro e he hb heq
 have h1 := hall e he hb
 rw [heq, getD_low hi] at h1
 cases h1
theorem Until.first {i : Nat} {oi : Oper} {v : Value} {U : List Nat} (hi : ops[i]? = some oi) (hsel : ∀ (j : Nat) (o : Oper) cs b, ops[j]? = some o → o.op ≠ .select cs b)
    (hQ : ∀ c a w, Q (.panic c) (a.put oi.dst v) w → Q (.panic c) a w) (hw : waits md ops i U = true) (hz : z ∈ U) (hzi : i ≠ z) :
    ∀ (f : Nat) (listed : Array Bool) (a : Act) (w : World),
     (∀ k ok, ops[k]? = some ok → k ≠ i → listed.getD k true = false → (∀ e ∈ ok.after, Region.binds md e = true → e.on ≠ i) → oi.apart ops ok = true) →
     i ∈ Region.ready md ops listed → unlisted listed U → YieldsIf P ops S oi v a → S w →
     Until P md ops Q S z f (listed.setIfInBounds i true) (a.put oi.dst v) w → Until P md ops Q S z (f + 1) listed a w := by
 intro f
 induction f with
 | zero =>
  intro listed a w _ hr hU hy hS H
  refine ⟨fun h => (by rw [h] at hr; cases hr), fun j hj => ?_⟩
  by_cases hji : j = i
  ·subst hji
   exact hy.wpOp hi hS (by rw [if_neg hzi]; exact ⟨hS, H⟩)
  ·have := ready_mono hj hji
   rw [H.1] at this
   cases this
 | succ f ih =>
  intro listed a w hfree hr hU hy hS H
  refine ⟨fun h => (by rw [h] at hr; cases hr), fun j hj => ?_⟩
  by_cases hji : j = i
  ·subst hji
   exact hy.wpOp hi hS (by rw [if_neg hzi]; exact ⟨hS, H⟩)
  ·have hi0 := (mem_ready.1 hr).1
   have hno := waits_not hw hi0 hU
   have hjz : j ≠ z := fun e => hno z hz (e ▸ hj)
   obtain ⟨hjun, oj, hoj, hall⟩ := mem_ready.1 hj
   have h1 := H.2 j (ready_mono hj hji)
   simp only [if_neg hjz] at h1 ⊢
   have h2 := wpOp_putIf hoj (hfree j oj hoj hji hjun (not_after (j := j) hi0 hall)) (fun cs b => hsel i oi cs b hi) (fun cs b => hsel j oj cs b hoj) hQ hy h1
   refine wpOp_mono (fun a' w' h3 => ⟨h3.2.1, ih (listed.setIfInBounds j true) a' w' (free_on hjun hfree) (ready_mono hr (Ne.symm hji)) ?_ h3.1 h3.2.1 ?_⟩) h2
   ·intro u hu
    have : j ≠ u := fun e => hno u hu (e ▸ hj)
    rw [getD_set_ne true this]
    exact hU u hu
   ·rw [Array.setIfInBounds_comm _ _ hji]
    exact h3.2.2
theorem Until.firstY {i : Nat} {oi : Oper} {v : Value} (hi : ops[i]? = some oi) (hsel : ∀ (j : Nat) (o : Oper) cs b, ops[j]? = some o → o.op ≠ .select cs b)
    (hQ : ∀ c a w, Q (.panic c) (a.put oi.dst v) w → Q (.panic c) a w) (hzi : i ≠ z) :
    ∀ (f : Nat) (listed : Array Bool) (a : Act) (w : World),
     (∀ k ok, ops[k]? = some ok → k ≠ i → listed.getD k true = false → (∀ e ∈ ok.after, Region.binds md e = true → e.on ≠ i) → oi.apart ops ok = true) →
     i ∈ Region.ready md ops listed → YieldsIf P ops (fun _ => True) oi v a → S w →
     Until P md ops Q S z f (listed.setIfInBounds i true) (a.put oi.dst v) w → Until P md ops Q S z (f + 1) listed a w := by
 intro f
 induction f with
 | zero =>
  intro listed a w _ hr hy hS H
  refine ⟨fun h => (by rw [h] at hr; cases hr), fun j hj => ?_⟩
  by_cases hji : j = i
  ·subst hji
   exact hy.wpOp hi trivial (by rw [if_neg hzi]; exact ⟨hS, H⟩)
  ·have := ready_mono hj hji
   rw [H.1] at this
   cases this
 | succ f ih =>
  intro listed a w hfree hr hy hS H
  refine ⟨fun h => (by rw [h] at hr; cases hr), fun j hj => ?_⟩
  by_cases hji : j = i
  ·subst hji
   exact hy.wpOp hi trivial (by rw [if_neg hzi]; exact ⟨hS, H⟩)
  ·have hi0 := (mem_ready.1 hr).1
   obtain ⟨hjun, oj, hoj, hall⟩ := mem_ready.1 hj
   have h1 := H.2 j (ready_mono hj hji)
   have h2 := wpOp_putIf hoj (hfree j oj hoj hji hjun (not_after (j := j) hi0 hall)) (fun cs b => hsel i oi cs b hi) (fun cs b => hsel j oj cs b hoj) hQ hy h1
   refine wpOp_mono (fun a' w' h3 => ?_) h2
   by_cases hjz : j = z
   ·have h4 := h3.2
    rw [if_pos hjz] at h4 ⊢
    refine wpAny_first hi hsel hQ f (listed.setIfInBounds j true) a' w' (free_on hjun hfree) (ready_mono hr (Ne.symm hji)) (h3.1.imp (fun ⟨p, q⟩ => ⟨p, fun w => q w trivial⟩) id) ?_
    rw [Array.setIfInBounds_comm _ _ hji]
    exact h4
   ·have h4 := h3.2
    rw [if_neg hjz] at h4 ⊢
    refine ⟨h4.1, ih (listed.setIfInBounds j true) a' w' (free_on hjun hfree) (ready_mono hr (Ne.symm hji)) h3.1 h4.1 ?_⟩
    rw [Array.setIfInBounds_comm _ _ hji]
    exact h4.2
theorem Until.take {i : Nat} {oi : Oper} {v : Value} {f : Nat} {listed : Array Bool} {a : Act} {w : World} (U : List Nat) (hi : ops[i]? = some oi)
    (hs : Region.noSelect ops = true) (hf : Region.free md ops listed i = true) (hr : (Region.ready md ops listed).contains i = true) (hw : waits md ops i U = true) (hz : U.contains z = true) (hzi : (i == z) = false)
    (hU : (U.all fun u => !(listed.getD u true)) = true)
    (hQ : ∀ c a w, Q (.panic c) (a.put oi.dst v) w → Q (.panic c) a w) (hy : YieldsIf P ops S oi v a) (hS : S w)
    (h : Until P md ops Q S z f (listed.setIfInBounds i true) (a.put oi.dst v) w) : Until P md ops Q S z (f + 1) listed a w :=
 Until.first hi (Region.noSelect_spec hs) hQ hw (by simpa using hz) (by simpa using hzi) f listed a w (Region.free_spec hi hf) (by simpa using hr) (unlisted_dec hU) hy hS h
theorem Until.takeY {i : Nat} {oi : Oper} {v : Value} {f : Nat} {listed : Array Bool} {a : Act} {w : World} (hi : ops[i]? = some oi)
    (hs : Region.noSelect ops = true) (hf : Region.free md ops listed i = true) (hr : (Region.ready md ops listed).contains i = true) (hzi : (i == z) = false)
    (hQ : ∀ c a w, Q (.panic c) (a.put oi.dst v) w → Q (.panic c) a w) (hy : YieldsIf P ops (fun _ => True) oi v a) (hS : S w)
    (h : Until P md ops Q S z f (listed.setIfInBounds i true) (a.put oi.dst v) w) : Until P md ops Q S z (f + 1) listed a w :=
 Until.firstY hi (Region.noSelect_spec hs) hQ (by simpa using hzi) f listed a w (Region.free_spec hi hf) (by simpa using hr) hy hS h
theorem Until.step {i : Nat} {o : Oper} {f : Nat} {listed : Array Bool} {a : Act} {w : World} (hr : Region.ready md ops listed = [i]) (ho : ops[i]? = some o) (hzi : (i == z) = false)
    (h : ∀ K' : Act → World → Prop, Shut (∀ a w, S w → (S w → Until P md ops Q S z f (listed.setIfInBounds i true) a w) → K' a w) → if Region.wanted o (yielded ops a.tmps) = true then Oper.wp P o a w K' Q else K' (a.put o.dst undef) w) :
    Until P md ops Q S z (f + 1) listed a w := by
 refine ⟨fun h0 => (by rw [hr] at h0; cases h0), ?_⟩
 rw [hr]
 intro j hj
 rcases List.mem_singleton.1 hj with rfl
 rw [show (fun a' w' => if j = z then wpAny P md ops Q f (listed.setIfInBounds j true) a' w' else S w' ∧ Until P md ops Q S z f (listed.setIfInBounds j true) a' w') = (fun a' w' => S w' ∧ Until P md ops Q S z f (listed.setIfInBounds j true) a' w') from by
  funext a' w'; rw [if_neg (by simpa using hzi)]]
 exact wpOp_step ho (fun K' hK => h K' (fun a w hS hW => hK a w ⟨hS, hW hS⟩))
theorem Until.last {o : Oper} {f : Nat} {listed : Array Bool} {a : Act} {w : World} (hr : Region.ready md ops listed = [z]) (ho : ops[z]? = some o)
    (h : ∀ K' : Act → World → Prop, Shut (∀ a w, wpAny P md ops Q f (listed.setIfInBounds z true) a w → K' a w) → if Region.wanted o (yielded ops a.tmps) = true then Oper.wp P o a w K' Q else K' (a.put o.dst undef) w) :
    Until P md ops Q S z (f + 1) listed a w := by
 refine ⟨fun h0 => (by rw [hr] at h0; cases h0), ?_⟩
 rw [hr]
 intro j hj
 rcases List.mem_singleton.1 hj with rfl
 rw [show (fun a' w' => if j = j then wpAny P md ops Q f (listed.setIfInBounds j true) a' w' else S w' ∧ Until P md ops Q S j f (listed.setIfInBounds j true) a' w') = (fun a' w' => wpAny P md ops Q f (listed.setIfInBounds j true) a' w') from by
  funext a' w'; rw [if_pos rfl]]
 exact wpOp_step ho (fun K' hK => h K' hK)
theorem wp_region_until {id : Nat} {a : Act} {w : World} (hm : P.follows .mixedOrders = true) (hS : S w.drew)
    (h : S w.drew → Until P .any ops Q S z ops.size (Array.replicate ops.size false) a w.drew) : (Code.region id ops true).wp P Q a w :=
 wp_region_any hm (Until.any _ _ _ _ (h hS))
end
end Go.Proofs.YtpbkjffiohfkcaaGreatDoor
namespace Go.Proofs.YtpbkjffiohfkcaaGreatDoor
open Go.RowKit Go.Shelf
set_option linter.unusedVariables false
theorem ownsRow_ownM {A B' : World} {row : Option Nat} {base : Nat} {e : TypeId} {size : Nat} {v : Value} {n : Nat} {xs : List Value} (h : A.ownsRow base e size v n xs) (hg : A.grownBy B' row) (hr : ∀ r, row = some r → ∃ o : Obj, A.heap[r]? = some o ∧ o.isCells = false) : B'.ownsRow base e size v n xs := by
 refine ⟨h.1, ?_⟩
 rcases h.2 with hn | ⟨g, cap, cur, rfl, hb, hgk, r⟩
 ·exact .inl hn
 ·exact .inr ⟨g, cap, cur, rfl, hb, cells_ownM hgk hg hr, r⟩
theorem row_blkM {X : World} {B n : Nat} {e : TypeId} {s : Nat} {v : Value} {xs : List Value} (h : X.ownsRow B e s v n xs) {r : Nat} (hr : v.ownBlock = some r) : B ≤ r ∧ ∃ cs, X.heap[r]? = some (.cells cs e (0, 0)) := by
 rcases h.2 with ⟨rfl, -⟩ | ⟨g, cap, cur, rfl, hb, hgk, -⟩
 ·cases hr
 ·cases hr; exact ⟨hb, _, hgk⟩
theorem side_seq {Ba Bb : Nat} {a : Option Addr} {la ca : Nat} {A : Nat → En} {b : Option Addr} {lb cb : Nat} {B : Nat → En} {w : World} (hS : SD Ba Bb a la ca A b lb cb B w) : SeqO Tryz.prog 141 #[.pointer (some ⟨Ba, 0, none⟩), .pointer (some ⟨Bb, 0, none⟩)] encP (KpS Ba Bb a la ca A b lb cb B) (fun ys => ys = prs (firstE A la) (firstE B lb)) (fun pre => ∃ r, pre ++ r = prs (firstE A la) (firstE B lb)) (prs (firstE A la) (firstE B lb)).length w :=
 fun m l J Jx W hW hJ hJx hY h0 => callsIn_wide.1 (side_in (m + 1) (by omega) l Ba Bb a la ca A b lb cb B J Jx (fun pre x W1 hp hl => (hY pre x W1 hp hl).mono (fun _ _ h => h.2)) W (ownFrom_abides hJ) (hS.keep hW) h0)
structure LstC (B vb : Nat) (tv e : TypeId) (s n : Nat) (cs : List Value) (X : World) : Prop where
 ex : ∃ v, X.heap[vb]? = some (.cells #[v] tv (0, 0)) ∧ X.ownsRow B e s v n cs
theorem LstC.own {B vb : Nat} {tv e : TypeId} {s n : Nat} {cs : List Value} {A X : World} {row : Option Nat} (h : LstC B vb tv e s n cs A) (hg : A.grownBy X row) (hr : ∀ r, row = some r → ∃ o : Obj, A.heap[r]? = some o ∧ o.isCells = false) : LstC B vb tv e s n cs X := by
 obtain ⟨v, h1, h2⟩ := h.ex
 exact ⟨v, cells_ownM h1 hg hr, ownsRow_ownM h2 hg hr⟩
structure LpC (w : World) (vb : Nat) (tv e : TypeId) (s n : Nat) (cs : List Value) (Ba Bb : Nat) (a : Option Addr) (la ca : Nat) (A : Nat → En) (b : Option Addr) (lb cb : Nat) (B : Nat → En) (X : World) : Prop where
 lst : LstC w.heap.size vb tv e s n cs X
 below : Below w.heap.size w X
 sd : SD Ba Bb a la ca A b lb cb B X
theorem LpC.own {w : World} {vb : Nat} {tv e : TypeId} {s n : Nat} {cs : List Value} {Ba Bb : Nat} {a : Option Addr} {la ca : Nat} {A : Nat → En} {b : Option Addr} {lb cb : Nat} {B : Nat → En} {X Y : World} {C : Nat} {row : Option Nat} (hC : w.heap.size ≤ C) (h : LpC w vb tv e s n cs Ba Bb a la ca A b lb cb B X) (hg : X.grownBy Y row) (hr : ∀ r, row = some r → C ≤ r ∧ ∃ o : Obj, X.heap[r]? = some o ∧ o.isCells = false) : LpC w vb tv e s n cs Ba Bb a la ca A b lb cb B Y :=
 ⟨h.lst.own hg (fun r e => (hr r e).2), h.below.grown hg h.below.size (fun k e => by have := (hr k e).1; omega), h.sd.own hg (fun r e => (hr r e).2)⟩
theorem LpC.keep {w : World} {vb : Nat} {tv e : TypeId} {s n : Nat} {cs : List Value} {Ba Bb : Nat} {a : Option Addr} {la ca : Nat} {A : Nat → En} {b : Option Addr} {lb cb : Nat} {B : Nat → En} {X Y : World} (h : LpC w vb tv e s n cs Ba Bb a la ca A b lb cb B X) (bb : Below X.heap.size X Y) : LpC w vb tv e s n cs Ba Bb a la ca A b lb cb B Y :=
 h.own (C := w.heap.size) (Nat.le_refl _) (grown_below bb) (fun r e => by cases e)
theorem LpC.add {w : World} {vb C : Nat} {tv e : TypeId} {s n : Nat} {cs news : List Value} {Ba Bb : Nat} {a : Option Addr} {la ca : Nat} {A : Nat → En} {b : Option Addr} {lb cb : Nat} {B : Nat → En} {X X1 : World} {v v' : Value} {o : Obj} (hA : EntsIn w a la ca A) (hB : EntsIn w b lb cb B) (hne : tv ≠ e) (hEL : e ≠ 22) (hvb : w.heap.size ≤ vb) (hva : Ba ≠ vb) (hvbb : Bb ≠ vb)
    (hb : Below w.heap.size w X) (sd : SD Ba Bb a la ca A b lb cb B X) (h1 : X.heap[vb]? = some (.cells #[v] tv (0, 0))) (h2 : X.ownsRow w.heap.size e s v n cs)
    (ho : X1.ownsRow w.heap.size e s v' (n + 1) (cs ++ news)) (hg : (X.alloc o).grownBy X1 v.ownBlock) :
    X1.heap[vb]? = some (.cells #[v] tv (0, 0)) ∧ LpC w vb tv e s (n + 1) (cs ++ news) Ba Bb a la ca A b lb cb B (X1.setCell ⟨vb, 0, none⟩ v') ∧ KeepsFrom C X (X1.setCell ⟨vb, 0, none⟩ v') := by
 have hnb : ∀ {k : Nat} {c : Array Value} {t : TypeId}, X.heap[k]? = some (.cells c t (0, 0)) → t ≠ e → some k ≠ v.ownBlock := fun hk ht er => by
  obtain ⟨-, cs', h3⟩ := row_blkM h2 er.symm
  rw [hk] at h3
  simp at h3
  exact ht h3.2
 have stay : ∀ {k : Nat} {c : Array Value} {t : TypeId}, X.heap[k]? = some (.cells c t (0, 0)) → t ≠ e → X1.heap[k]? = some (.cells c t (0, 0)) := fun hk ht => by
  rw [hg.block _ (by have := (Array.getElem?_eq_some_iff.1 hk).1; simp; omega) (hnb hk ht)]
  exact blk_on hk (bnew _ _)
 have hvb1 := stay h1 hne
 have hB3 : Below w.heap.size w (X1.setCell ⟨vb, 0, none⟩ v') := (((hb.alloc hb.size o).grown hg (by have := hb.size; simp; omega) (fun j e => (row_blkM h2 e).1)).setCell (p := ⟨vb, 0, none⟩) hvb _)
 refine ⟨hvb1, ⟨⟨v', by rw [heap_setCell_same X1 vb 0 _ _ v' hvb1]; rfl, ?_⟩, hB3, ⟨?_, ?_, hA.keep hB3, hB.keep hB3⟩⟩, ?_⟩
 ·refine ownsRow_keep (S := fun i => i = vb) ho ((Keeps.refl (fun i => i = vb) X1).setCell (p := ⟨vb, 0, none⟩) (fun _ => rfl) _) (fun j e1 e2 => ?_)
  subst e2
  obtain ⟨-, cs', h3⟩ := row_blkM ho e1
  rw [hvb1] at h3; simp at h3
  exact hne h3.2
 ·rw [Below.heap_setCell _ _ _ _ hva]; exact stay sd.xa (Ne.symm hEL)
 ·rw [Below.heap_setCell _ _ _ _ hvbb]; exact stay sd.xb (Ne.symm hEL)
 ·have k1 : KeepsFrom C (X.alloc o) X1 := ⟨hg.size, fun i ob _ hi hob => (hg.block i (Array.getElem?_eq_some_iff.1 hi).1 (fun e => by
    obtain ⟨-, cs', h3⟩ := row_blkM h2 e.symm
    rw [blk_on h3 (bnew _ _)] at hi
    injection hi with hi
    subst hi
    cases hob)).trans hi⟩
  exact ((KeepsFrom.of_grownBy (World.grownBy_alloc X o none) (fun j e => by cases e)).trans k1).trans ((KeepsOthers.setCell _ _ _).from _)
theorem kf_below {C : Nat} {X Y : World} (h : Below X.heap.size X Y) : KeepsFrom C X Y := KeepsFrom.of_grownBy (grown_below h) (fun j e => by cases e)
def outL {α : Type} (q : Int) (l : List α) : List α := if q = 0 then l else []
theorem outL_ok {α : Type} {q : Int} (l : List α) (h : q = 0) : outL q l = l := by unfold outL; rw [if_pos h]
theorem outL_bad {α : Type} {q : Int} (l : List α) (h : q ≠ 0) : outL q l = [] := by unfold outL; rw [if_neg h]
def Says (w : World) (q : Int) (l : List En) (e : Ending) (w' : World) : Prop := ∃ v, e = .returned (.tuple #[v, .int .i64 q]) ∧ w'.ownsRow w.heap.size 77 5 v l.length (entCells l) ∧ Below w.heap.size w w'
theorem newer_en (x y : En) (w : World) {q : Bool} (h : En.newer x y = q) : Calls Tryz.prog 121 #[.agg #[.string x.k, .int .i64 x.c, .int .i64 x.n, .string x.v, .bool x.d], .agg #[.string y.k, .int .i64 y.c, .int .i64 y.n, .string y.v, .bool y.d]] w fun e w' => e = .returned (.bool q) ∧ Below w.heap.size w w' := newer_any _ _ _ _ _ _ _ _ _ _ q w h
end Go.Proofs.YtpbkjffiohfkcaaGreatDoor
namespace Go.Proofs.YtpbkjffiohfkcaaGreatDoor
open Go.RowKit
set_option linter.unusedVariables false
def inL (r : Rg) (l : List En) : List En := l.filter (fun e => Rg.has r e.k)
theorem inL_snoc (r : Rg) (l : List En) (x : En) : inL r (l ++ [x]) = inL r l ++ (if Rg.has r x.k then [x] else []) := by
 unfold inL
 rw [List.filter_append]
 congr 1
 cases h : Rg.has r x.k <;> simp [h]
theorem inL_len (r : Rg) (l : List En) : (inL r l).length ≤ l.length := List.length_filter_le _ _
theorem box3r {w : World} {i : Nat} {a b c : Value} {T : TypeId} (h : w.heap[i]? = some (.cells #[a, b, c] T (0, 0))) : w.cell? ⟨i, 0, none⟩ = some a ∧ w.cell? ⟨i, 1, none⟩ = some b ∧ w.cell? ⟨i, 2, none⟩ = some c :=
 ⟨by rw [cell_of_row _ _ 0 _ _ _ h]; rfl, by rw [cell_of_row _ _ 1 _ _ _ h]; rfl, by rw [cell_of_row _ _ 2 _ _ _ h]; rfl⟩
theorem own_emptyE (w : World) (B : Nat) (h : B ≤ w.heap.size) : (w.alloc (.cells #[] 77)).ownsRow B 77 5 (.slice (some ⟨w.heap.size, 0, none⟩) 0 0) 0 (entCells []) := by
 refine ⟨rfl, .inr ⟨w.heap.size, 0, #[], rfl, h, heap_alloc_new w _, Nat.le_refl _, Nat.zero_le _, rfl, rfl⟩⟩
theorem holdsRef_at {lo hi : ByteArray} {op : Bool} {k : ByteArray} {q : Bool} (h : Rg.has ⟨lo, hi, op⟩ k = q) (w : World) : Calls Tryz.prog 66 #[.agg #[.string lo, .string hi, .bool op], .string k] w fun e w' => e = .returned (.bool q) ∧ Below w.heap.size w w' := by
 subst h; exact holdsRef_any lo hi op k w
def f0 (e : En) : Int := of0 e.k e.c e.n
def f1 (e : En) : Int := of1 e.k e.c e.n
def allI (f : En → Int) (l : List En) : Int := IntKind.u64.wrap ((l.map f).sum)
theorem wrap_add (x y : Int) : IntKind.u64.wrap (IntKind.u64.wrap x + y) = IntKind.u64.wrap (x + y) := by
 rw [IntKind.wrap_u64, IntKind.wrap_u64, IntKind.wrap_u64]; omega
theorem allI_nil (f : En → Int) : allI f [] = 0 := by unfold allI; rw [IntKind.wrap_u64]; rfl
theorem allI_snoc (f : En → Int) (l : List En) (e : En) : allI f (l ++ [e]) = IntKind.u64.wrap (allI f l + f e) := by
 unfold allI
 rw [wrap_add, List.map_append, List.sum_append]
 simp
def talT (T : Nat → En) (n : Nat) : Value := .agg #[.int .i64 (n : Int), .int .u64 (allI f0 (firstE T n)), .int .u64 (allI f1 (firstE T n))]
structure TAll (w wr : World) (xn x0 x1 : Int) : Prop where
 below : Below w.heap.size w wr
 sz : w.heap.size + 2 ≤ wr.heap.size
 r : wr.heap[w.heap.size]? = some (.cells #[.int .i64 0, .int .u64 0, .int .u64 0] 45)
 s : wr.heap[w.heap.size + 1]? = some (.cells #[.int .i64 xn, .int .u64 x0, .int .u64 x1] 45)
theorem TAll.keep {w wr w2 : World} {xn x0 x1 : Int} (h : TAll w wr xn x0 x1) (b : Below wr.heap.size wr w2) : TAll w w2 xn x0 x1 :=
 ⟨h.below.trans (b.mono h.below.size), by have := b.size; have := h.sz; omega, blk_on h.r b, blk_on h.s b⟩
theorem TAll.drew {w wr : World} {xn x0 x1 : Int} (h : TAll w wr xn x0 x1) : TAll w wr.drew xn x0 x1 := ⟨h.below.drew, h.sz, h.r, h.s⟩
theorem TAll.set {w wr : World} {xn x0 x1 : Int} (h : TAll w wr xn x0 x1) (yn y0 y1 : Int) : TAll w (((wr.setCell ⟨w.heap.size + 1, 0, none⟩ (.int .i64 yn)).setCell ⟨w.heap.size + 1, 1, none⟩ (.int .u64 y0)).setCell ⟨w.heap.size + 1, 2, none⟩ (.int .u64 y1)) yn y0 y1 := by
 have s1 := heap_setCell_same wr (w.heap.size + 1) 0 _ _ (.int .i64 yn) h.s
 have s2 := heap_setCell_same _ (w.heap.size + 1) 1 _ _ (.int .u64 y0) s1
 have s3 := heap_setCell_same _ (w.heap.size + 1) 2 _ _ (.int .u64 y1) s2
 refine ⟨((h.below.setCell (by simp) _).setCell (by simp) _).setCell (by simp) _, by simpa using h.sz, ?_, s3⟩
 rw [heap_setCell_other _ _ _ _ (by simp), heap_setCell_other _ _ _ _ (by simp), heap_setCell_other _ _ _ _ (by simp)]; exact h.r
theorem tall_start (w : World) : TAll w ((w.alloc (.cells #[.int .i64 0, .int .u64 0, .int .u64 0] 45)).alloc (.cells #[.int .i64 0, .int .u64 0, .int .u64 0] 45)) 0 0 0 := by
 refine ⟨(bnew w _).alloc (by simp) _, by simp, blk_on (heap_alloc_new w _) (bnew _ _), ?_⟩
 have := heap_alloc_new (w.alloc (.cells #[.int .i64 0, .int .u64 0, .int .u64 0] 45)) (.cells #[.int .i64 0, .int .u64 0, .int .u64 0] 45)
 simpa using this
set_option maxHeartbeats 3200000 in
set_option maxRecDepth 100000 in
theorem tallRef_any (a : Option Addr) (len cap : Nat) (T : Nat → En) (w : World) (h : EntsIn w a len cap T) :
    Calls Tryz.prog 78 #[.slice a len cap] w fun e w' => e = .returned (talT T len) ∧ Below w.heap.size w w' := by
 have HE := aside h
 obtain ⟨hlc, hcm, -⟩ := h
 have hmx : (len : Int) ≤ 9223372036854775807 := by unfold maxLen at hcm; omega
 clear hlc hcm
 go_enter Tryz.func78, Tryz.ntmps78
 go_wp2
 go_loopw [4] (fun i wr => ∃ j : Nat, i = .int .i64 (j : Int) ∧ j ≤ len ∧ TAll w wr (j : Int) (allI f0 (firstE T j)) (allI f1 (firstE T j))) (fun i _ => len - (intOf i).toNat)
 case atStart =>
  refine ⟨0, rfl, Nat.zero_le _, ?_⟩
  rw [show firstE T 0 = [] from rfl, allI_nil, allI_nil]
  exact tall_start w
 case round =>
  obtain ⟨j, rfl, hj, S⟩ := hrel
  have HS := aside S
  by_cases hlt : (j : Int) < (len : Int)
  ·have hE := HE.out.keep S.below
   rcases hE.2.2 with h0 | ⟨b, off, rfl, hb, hc⟩
   ·omega
   ·obtain ⟨⟨c0, c1, c2, c3, c4⟩, hkk⟩ := hc j (by omega)
    have e0 := allI_snoc f0 (firstE T j) (T j)
    have e1 := allI_snoc f1 (firstE T j) (T j)
    rw [← firstE_succ, f0] at e0
    rw [← firstE_succ, f1] at e1
    have E0 := aside e0
    have E1 := aside e1
    have hsz := S.sz
    obtain ⟨-, -, -, s1⟩ := S
    obtain ⟨p0, p1, p2, p3, p4, p5⟩ := tri s1
    generalize T j = t at *
    generalize allI f0 (firstE T j) = x0 at *
    generalize allI f1 (firstE T j) = x1 at *
    have hj0 : (0 : Int) ≤ (j : Int) := by omega
    have hjw : IntKind.i64.wrap ((j : Int) + 1) = (j : Int) + 1 := by rw [IntKind.wrap_i64]; omega
    obtain ⟨o0, ho0⟩ : ∃ o, of0 t.k t.c t.n = o := ⟨_, rfl⟩
    obtain ⟨o1, ho1⟩ : ∃ o, of1 t.k t.c t.n = o := ⟨_, rfl⟩
    rw [ho0] at E0
    rw [ho1] at E1
    obtain ⟨r0', hr0⟩ : ∃ o, IntKind.u64.wrap (x0 + o0) = o := ⟨_, rfl⟩
    obtain ⟨r1', hr1⟩ : ∃ o, IntKind.u64.wrap (x1 + o1) = o := ⟨_, rfl⟩
    rw [hr0] at E0
    rw [hr1] at E1
    have CO : Hid (∀ W, Below w.heap.size w W → Calls Tryz.prog 105 #[.agg #[.string t.k, .int .i64 t.c, .int .i64 t.n, .string t.v, .bool t.d]] W fun e w' => e = .returned (.agg #[.int .i64 1, .int .u64 o0, .int .u64 o1]) ∧ Below W.heap.size W w') := fun W bw => by
     rw [← ho0, ← ho1]
     exact tofRef_any _ _ _ _ _ W hkk
    have CJ := aside (fun W => joinRef_at hjw hr0 hr1 W)
    clear e0 e1 hc hE s1 ho0 ho1 hr0 hr1
    have HS4 := HS
    go_wp2_with fail
    go_region_with (first | (go_at_call 105; refine (CO.out _ HS4.out.drew.below).mono ?_; rintro e w1 ⟨rfl, b1⟩; have S5 := HS4.out.drew.keep b1; have HS5 := aside S5; obtain ⟨-, -, -, s5⟩ := S5; obtain ⟨q0, q1, q2, q3, q4, q5⟩ := tri s5; clear s5 b1) | (go_at_call 104; refine (CJ.out _).mono ?_; rintro e w2 ⟨rfl, b2⟩; have S6 := HS5.out.keep b2; have HS6 := aside S6; obtain ⟨-, -, -, s6⟩ := S6; obtain ⟨y0, y1, y2, y3, y4, y5⟩ := tri s6; clear s6 b2))
    all_goals
     go_wp2
     go_roundw
     case rel =>
      refine ⟨j + 1, by go_num, by omega, ?_⟩
      rw [E0.out, E1.out]
      exact HS6.out.set _ _ _
     case measure => simp [intOf]; omega
  ·have hjl : j = len := by omega
   subst hjl
   obtain ⟨-, hsz, s1, s2⟩ := S
   obtain ⟨p0, p1, p2, p3, p4, p5⟩ := tri s1
   obtain ⟨q0, q1, q2, q3, q4, q5⟩ := tri s2
   clear s1 s2
   go_wp2
   exact bodyPost_ret (v := talT T j) (by simp [results, Tryz.results78, go_sem, p0, p1, p2, talT]) rfl ⟨rfl, ((HS.out.below.setCell (by simp) _).setCell (by simp) _).setCell (by simp) _⟩
end Go.Proofs.YtpbkjffiohfkcaaGreatDoor

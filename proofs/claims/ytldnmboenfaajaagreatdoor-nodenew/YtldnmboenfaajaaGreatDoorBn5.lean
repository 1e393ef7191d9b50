/-
  Two maps side by side, step by step: plain; rows of pairs in memory.
  Pairs, the document's own: two maps side by side, as a list.
  Iterators that go over another iterator: what they may ask of the one who ranges over them, and a law for the loop.
  The iterator that goes through two maps side by side: what it hands to a loop's body.
  Entries and versions compared.
  A region that draws its order and whose stores come last: what holds ahead of the first store lets loads be taken first.
  Lists that a loop over pairs makes.
  In, the code's: what of a list is in a range.
  What entries come to: the document's All.
-/
import Derived.Test.YtldnmboenfaajaaGreatDoorBn2
import Derived.Test.YtldnmboenfaajaaGreatDoorBn1
import Derived.RangeFuncNested
import Derived.Laws.StructEq
import Derived.OrdersHeld
import Derived.Deep.RegionHeld
import Derived.Deep.RegionWith
namespace Go.Proofs.YtldnmboenfaajaaGreatDoor
open Go.RowKit
set_option linter.unusedVariables false
end Go.Proofs.YtldnmboenfaajaaGreatDoor
namespace Go.Proofs.YtldnmboenfaajaaGreatDoor
open Go.RowKit
set_option linter.unusedVariables false
theorem ents_five {w : World} {b o len cap : Nat} {T : Nat → En} (h : EntsIn w (some ⟨b, o, none⟩) len cap T) {i : Nat} (hi : i < len) {x : En} (hx : T i = x) :
    w.cell? ⟨b, o + i * 5, none⟩ = some (.string x.k) ∧ w.cell? ⟨b, o + i * 5 + 1, none⟩ = some (.int .i64 x.c) ∧ w.cell? ⟨b, o + i * 5 + 2, none⟩ = some (.int .i64 x.n) ∧ w.cell? ⟨b, o + i * 5 + 3, none⟩ = some (.string x.v) ∧ w.cell? ⟨b, o + i * 5 + 4, none⟩ = some (.bool x.d) := by
  rcases h.2.2 with h0 | ⟨b', o', e, -, hc⟩
  · omega
  · cases e
    have := (hc i hi).1
    rw [hx] at this
    exact this
end Go.Proofs.YtldnmboenfaajaaGreatDoor
namespace Go.Proofs.YtldnmboenfaajaaGreatDoor
open Go.RowKit Go.Shelf
set_option linter.unusedVariables false
/-- What the iterator g does with whatever yield: it hands out all of S, or is stopped. The invariants may not mind what becomes of blocks that are no cells and were laid since. -/
def SeqO {α : Type} (P : Program) (g : Nat) (lb : Array Value) (encs : α → Array Value) (Kp : World → World → Prop) (S Sp : List α → Prop) (N : Nat) (w : World) : Prop :=
  ∀ (m l : Nat) (J Jx : List α → World → Prop) (W : World), Below w.heap.size w W → OwnFrom W.heap.size J → OwnFrom W.heap.size Jx →
    (∀ pre x W1, J pre W1 → pre.length < N → YieldAt Fence.wide m P l (encs x) W1 fun e W' =>
      KeepsFrom W.heap.size W1 W' ∧ ((e = .returned (.bool true) ∧ J (pre ++ [x]) W' ∧ Kp W1 W') ∨ (e = .returned (.bool false) ∧ Jx (pre ++ [x]) W'))) →
    J [] W →
    Calls P g (#[.func (.yield l) #[] #[]] ++ lb) W fun e W' => (∃ v, e = .returned v) ∧ ((∃ xs, S xs ∧ J xs W') ∨ (∃ pre, Sp pre ∧ Jx pre W'))
theorem ownFrom_abides {β : Type} {B : Nat} {J : β → World → Prop} (h : OwnFrom B J) : AbidesFrom B J := fun s W W' row hs hg hr =>
  h s W W' row hs hg (fun r e => by obtain ⟨h1, o, h2, h3⟩ := hr r e; exact ⟨h1, o, h2, Obj.not_cells_of_walk h3⟩)
theorem SeqO.of_stops {α : Type} {P : Program} {g : Nat} {lb : Array Value} {encs : α → Array Value} {Kp : World → World → Prop} {S Sp : List α → Prop} {N : Nat} {w : World} (h : ∀ n, SeqStopsK Fence.wide n P g lb encs Kp S Sp N w) : SeqO P g lb encs Kp S Sp N w :=
  fun m l J Jx W hW hJ hJx hY h0 => callsIn_wide.1 (h (m + 1) l J Jx W hW (ownFrom_abides hJ) (ownFrom_abides hJx) (fun pre x W1 hp hl => (hY pre x W1 hp hl).mono (fun _ _ h => h.2)) h0)
/-- The two blocks in which a loop keeps its own state. -/
structure Bk (B : Nat) (r : Loop) (W : World) : Prop where
  lp : W.heap[B + 1]? = some (.loop r)
  def_ : W.heap[B]? = some (.deferred (some []))
theorem Bk.put {B : Nat} {r : Loop} {W : World} (h : Bk B r W) (r' : Loop) : Bk B r' (W.putObj (B + 1) (.loop r')) :=
  ⟨World.putObj_heap_same (Array.getElem?_eq_some_iff.1 h.lp).1, (World.putObj_heap_other (by omega)).trans h.def_⟩
theorem Bk.kept {B : Nat} {r : Loop} {W W' : World} (h : Bk B r W) (k : KeepsFrom B W W') : Bk B r W' :=
  ⟨k.same _ _ (by omega) h.lp rfl, k.same _ _ (Nat.le_refl _) h.def_ rfl⟩
theorem Bk.grown {B C : Nat} {r : Loop} {W W' : World} {row : Option Nat} (h : Bk B r W) (hC : B + 2 ≤ C) (g : W.grownBy W' row) (hr : ∀ i, row = some i → C ≤ i) : Bk B r W' :=
  ⟨(g.block _ (Array.getElem?_eq_some_iff.1 h.lp).1 (fun e => by have := hr _ e.symm; omega)).trans h.lp, (g.block _ (Array.getElem?_eq_some_iff.1 h.def_).1 (fun e => by have := hr _ e.symm; omega)).trans h.def_⟩
theorem Bk.own {β : Type} {B C : Nat} {r : Loop} {I : β → World → Prop} (hI : OwnFrom B I) (hC : B + 2 ≤ C) : OwnFrom C (fun s W => I s W ∧ Bk B r W) :=
  fun s W W' row hs g hr => ⟨hI s W W' row hs.1 g (fun i e => ⟨by have := (hr i e).1; omega, (hr i e).2⟩), hs.2.grown hC g (fun i e => (hr i e).1)⟩
theorem keepsFrom_up {B C : Nat} {W W' : World} (h : KeepsFrom B W W') (hBC : B ≤ C) : KeepsFrom C W W' := ⟨h.size, fun k o hk => h.same k o (by omega)⟩
theorem keepsFrom_put (B l : Nat) (W : World) (o : Obj) (h : l < B) : KeepsFrom B W (W.putObj l o) := ⟨by simp, fun k o' hk e _ => (World.putObj_heap_other (by omega)).trans e⟩
/-- A loop over such an iterator. -/
theorem rangeO {P : Program} {n : Nat} {α : Type} {g : Operand} {ps : Array Tmp} {assign body : Code} {Q : Exit → Act → World → Prop} {a : Act} {w : World}
    {gf : Nat} {lb : Array Value} (hg : a.eval g = .func (.func gf) #[] lb) (eg : ∀ args w, (callFunc gf args).run P w = .ok (.enter gf args) w)
    {encs : α → Array Value} {Kp : World → World → Prop} {S Sp : List α → Prop} {N : Nat} {w0 : World} (hseq : SeqO P gf lb encs Kp S Sp N w0)
    (hKt : ∀ {A B C : World}, Kp A B → Kp B C → Kp A C) (hKb : ∀ (W : World) (l : Nat) (o o' : Obj), w.heap.size ≤ l → W.heap[l]? = some o → o.isCells = false → Kp W (W.putObj l o')) (hb0 : Below w0.heap.size w0 w) (hps : ∀ x, (encs x).size = ps.size)
    (I : List α → World → Prop) (Ix : Code → List α → World → Prop) (hI : OwnFrom w.heap.size I) (hIx : ∀ c, OwnFrom w.heap.size (Ix c)) (h0 : I [] w) (Ax : α → Act → World → Prop) (hAx : ∀ x a', OwnFrom w.heap.size (fun (_ : Unit) W => Ax x a' W))
    (hassign : ∀ (l : Nat) (pre : List α) (x : α) (W : World) (K : Act → World → Prop), I pre W → (∀ a' W', KeepsFrom w.heap.size W W' → Kp W W' → I pre W' → Ax x a' W' → K a' W') →
      assign.wpIn (Fence.wide.inRound l) (n - 1 - 1) P (Exit.then K (fun _ _ _ => False)) { tmps := (ps.zip (encs x)).foldl (fun t (p, v) => t.setIfInBounds p v) a.tmps, defers := [] } W)
    (hbody : ∀ (l : Nat) (pre : List α) (x : α) (a' : Act) (W : World), I pre W → Ax x a' W → pre.length < N → body.wpIn (Fence.wide.inRound l) (n - 1 - 1) P (ownPostG w.heap.size Kp I Ix (pre ++ [x]) W) a' W)
    (hdone : ∀ (D : Nat) (xs : List α) (W : World), w.heap.size ≤ D → S xs → I xs W → W.heap[D]? = some (.deferred (some [])) → Q .normal { a with defers := { target := .collected D, args := #[] } :: a.defers } W)
    (hstop : ∀ (D : Nat) (c : Code) (pre : List α) (W : World), w.heap.size ≤ D → Sp pre → Ix c pre W → W.heap[D]? = some (.deferred (some [])) → c.wpIn Fence.wide n P Q { a with defers := { target := .collected D, args := #[] } :: a.defers } W) :
    (Code.rangeFunc g ps assign body).wpIn Fence.wide n P Q a w := by
  refine wpIn_rangeFunc fun fn hfn => ?_
  obtain ⟨B, hB⟩ : ∃ B, w.heap.size = B := ⟨_, rfl⟩
  obtain ⟨R, hR⟩ : ∃ R : LoopState → Option Code → Loop, R = fun st pe => { state := st, pending := pe, fn, tmps := a.tmps, params := ps, assign, body, defers := B } := ⟨_, rfl⟩
  obtain ⟨V, hV⟩ : ∃ V, (w.alloc (.deferred (some []))).alloc (.loop (R .ready none)) = V := ⟨_, rfl⟩
  have bV : Below w.heap.size w V := by rw [← hV]; exact ((Below.refl _ w).alloc (Nat.le_refl _) _).alloc (by simp) _
  have sV : V.heap.size = B + 2 := by rw [← hV, ← hB]; simp
  have kV : Bk B (R .ready none) V := by
    rw [← hV, ← hB]
    have h2 := heap_alloc_new (w.alloc (.deferred (some []))) (.loop (R .ready none))
    rw [World.size_alloc] at h2
    exact ⟨h2, (Below.heap_alloc _ _ _ (by simp)).trans (heap_alloc_new w _)⟩
  have iV : I [] V := by rw [← hV]; exact hI.alloc _ (hI.alloc _ h0)
  rw [hB] at hI hIx hAx hKb hassign hbody hdone hstop
  refine ⟨B + 1, [{ target := .collected B, args := #[] }], V, { target := .fn (.func gf) lb, args := #[.func (.yield (B + 1)) #[] #[]] }, V, gf, #[.func (.yield (B + 1)) #[] #[]] ++ lb, V, ?_, ?_, fun _ _ => trivial, ?_, fun h => (by cases h), ?_⟩
  · rw [← hV, hR, ← hB]; exact run_enterLoop_outer _ _ _ _ _
  · simp only [resolve, hg]
    simp [go_sem]
  · simp [invoke, go_sem, eg]
  refine callsIn_wide.2 ?_
  -- the iterator is told: the invariant, and the loop's own blocks
  refine (hseq (n - 1 - 1) (B + 1) (fun pre W => I pre W ∧ Bk B (R .ready none) W) (fun pre W => ∃ c, Ix c pre W ∧ Bk B (R .done (some c)) W) V (hb0.trans (bV.mono hb0.size)) (Bk.own hI (by omega))
    (fun s W W' row hs g hr => by
      obtain ⟨c, h1, h2⟩ := hs
      exact ⟨c, Bk.own (hIx c) (Nat.le_of_eq sV.symm) s W W' row ⟨h1, h2⟩ g hr⟩) ?_ ⟨iV, kV⟩).mono ?_
  · rintro pre x W ⟨hi, hk⟩ hlen
    have hy := run_yield (P := P) (args := encs x) hk.lp (by rw [hR]; exact hps x)
    rw [hR] at hy
    refine ⟨fn, _, assign, body, hy, roundIn_of_wpIn hfn (hassign _ pre x W _ hi ?_)⟩
    intro a' Wa kf kp ia ax
    have ka := hk.kept kf
    refine ⟨_, run_beginRound ka.lp (by rw [hR]), ?_⟩
    have kb := ka.put { R .ready none with state := .busy }
    refine wpIn_mono (hbody _ pre x a' _ (hI.putObj _ ia (by omega) ka.lp rfl) ((hAx x a').putObj (s := ()) _ ax (by omega) ka.lp rfl) hlen) ?_
    have turn : ∀ (j : Option Code) (W3 : World), KeepsFrom B (Wa.putObj (B + 1) (.loop { R .ready none with state := .busy })) W3 →
        ∃ W4, KeepsFrom (B + 2) W W4 ∧ W4 = W3.putObj (B + 1) (.loop (R (if j.isNone then .ready else .done) j)) ∧ (Instr.endRound (B + 1) j).run P W3 = .ok (.bool j.isNone) W4 ∧ Bk B (R (if j.isNone then .ready else .done) j) W4 ∧ (∃ o, W3.heap[B + 1]? = some o ∧ o.isCells = false) := fun j W3 k3 => by
      have k4 := kb.kept k3
      have e := run_endRound (P := P) j k4.lp
      refine ⟨_, (((keepsFrom_up kf (by omega)).trans (keepsFrom_put _ _ _ _ (by omega))).trans (keepsFrom_up k3 (by omega))).trans (keepsFrom_put _ _ _ _ (by omega)), rfl, ?_, k4.put _, _, k4.lp, rfl⟩
      rw [hR] at e ⊢
      exact e
    have leave : ∀ (c : Code) (W3 : World), KeepsFrom B (Wa.putObj (B + 1) (.loop { R .ready none with state := .busy })) W3 → Ix c (pre ++ [x]) W3 →
        ∃ W4, KeepsFrom (B + 2) W W4 ∧ (Instr.endRound (B + 1) (some c)).run P W3 = .ok (.bool false) W4 ∧ ∃ c, Ix c (pre ++ [x]) W4 ∧ Bk B (R .done (some c)) W4 := fun c W3 k3 i3 => by
      obtain ⟨W4, kk, rfl, e, k4, o, h1, h2⟩ := turn (some c) W3 k3
      exact ⟨_, kk, e, c, (hIx c).putObj _ i3 (by omega) h1 h2, k4⟩
    rintro ex a3 W3 hp
    cases ex with
    | normal =>
      obtain ⟨W4, kk, rfl, e, k4, o, h1, h2⟩ := turn none W3 hp.1
      exact ⟨_, _, e, (by rw [sV]; exact kk), .inl ⟨rfl, ⟨hI.putObj _ hp.2.2 (by omega) h1 h2, k4⟩, hKt kp (hKt (hKt (hKb _ _ _ _ (by omega) ka.lp rfl) hp.2.1) (hKb _ _ _ _ (by omega) h1 h2))⟩⟩
    | ret => obtain ⟨W4, kk, e, i4⟩ := leave .ret W3 hp.1 hp.2; exact ⟨_, _, e, (by rw [sV]; exact kk), .inr ⟨rfl, i4⟩⟩
    | exit id => obtain ⟨W4, kk, e, i4⟩ := leave (.exit id) W3 hp.1 hp.2; exact ⟨_, _, e, (by rw [sV]; exact kk), .inr ⟨rfl, i4⟩⟩
    | goto t => obtain ⟨W4, kk, e, i4⟩ := leave (.goto t) W3 hp.1 hp.2; exact ⟨_, _, e, (by rw [sV]; exact kk), .inr ⟨rfl, i4⟩⟩
    | panic c => exact hp.elim
    | outgrown => exact hp.elim
  · rintro e W2 ⟨⟨v, rfl⟩, ⟨xs, hS, hi, hk⟩ | ⟨pre, hSp, c, hi, hk⟩⟩
    · refine ⟨none, _, ?_, hdone B xs _ (Nat.le_refl _) hS (hI.putObj (.loop { R .ready none with state := .exhausted }) hi (by omega) hk.lp rfl) (hk.put _).def_⟩
      have e := run_endLoop (P := P) hk.lp (by rw [hR]; simp)
      rw [hR] at e ⊢
      exact e
    · refine ⟨some c, _, ?_, hstop B c pre _ (Nat.le_refl _) hSp ((hIx c).putObj (.loop { R .done (some c) with state := .exhausted }) hi (by omega) hk.lp rfl) (hk.put _).def_⟩
      have e := run_endLoop (P := P) hk.lp (by rw [hR]; simp)
      rw [hR] at e ⊢
      exact e
end Go.Proofs.YtldnmboenfaajaaGreatDoor
namespace Go.Proofs.YtldnmboenfaajaaGreatDoor
open Go.RowKit Go.Shelf
set_option linter.unusedVariables false
attribute [local go_sem] Oper.semAt_some
end Go.Proofs.YtldnmboenfaajaaGreatDoor
namespace Go.Proofs.YtldnmboenfaajaaGreatDoor
open Go.RowKit
set_option linter.unusedVariables false
end Go.Proofs.YtldnmboenfaajaaGreatDoor
namespace Go.Proofs.YtldnmboenfaajaaGreatDoor
open Go.RowKit
set_option linter.unusedVariables false
section
variable {P : Program} {ops : Array Oper} {Q : Exit → Act → World → Prop} {md : Region.Mode} {S : World → Prop} {z : Nat}
/-- Whatever order is picked: behind each operation that comes ahead of number z, S holds. -/
def Until (P : Program) (md : Region.Mode) (ops : Array Oper) (Q : Exit → Act → World → Prop) (S : World → Prop) (z : Nat) : Nat → Array Bool → Act → World → Prop
  | 0, listed, a, w => Region.ready md ops listed = [] ∧ Q .normal a w
  | f + 1, listed, a, w => (Region.ready md ops listed = [] → Q .normal a w) ∧ ∀ i ∈ Region.ready md ops listed,
      wpOp P ops Q i (fun a' w' => if i = z then wpAny P md ops Q f (listed.setIfInBounds i true) a' w' else S w' ∧ Until P md ops Q S z f (listed.setIfInBounds i true) a' w') a w
theorem Until.any : ∀ (f : Nat) (listed : Array Bool) (a : Act) (w : World), Until P md ops Q S z f listed a w → wpAny P md ops Q f listed a w
  | 0, _, _, _, h => h
  | f + 1, _, _, _, h => ⟨h.1, fun i hi => wpOp_mono (fun a' w' h' => by
      by_cases e : i = z
      · rwa [if_pos e] at h'
      · rw [if_neg e] at h'; exact Until.any f _ a' w' h'.2) (h.2 i hi)⟩
/-- Each of U waits for i or for another one of U. -/
def waits (md : Region.Mode) (ops : Array Oper) (i : Nat) (U : List Nat) : Bool :=
  U.all fun u => match ops[u]? with
    | some o => o.after.any fun e => Region.binds md e && (e.on == i || U.contains e.on)
    | none => false
def unlisted (listed : Array Bool) (U : List Nat) : Prop := ∀ u ∈ U, listed.getD u true = false
theorem unlisted_dec {listed : Array Bool} {U : List Nat} (h : (U.all fun u => !(listed.getD u true)) = true) : unlisted listed U := by
  intro u hu
  have := List.all_eq_true.1 h u hu
  simpa using this
theorem getD_low {listed : Array Bool} {j : Nat} (h : listed.getD j true = false) : listed.getD j false = false := by
  rcases Nat.lt_or_ge j listed.size with h' | h'
  · simp [h'] at h ⊢; exact h
  · simp [Array.getElem?_eq_none h'] at h
theorem waits_not {i : Nat} {U : List Nat} {listed : Array Bool} (hw : waits md ops i U = true) (hi : listed.getD i true = false) (hU : unlisted listed U) : ∀ u ∈ U, u ∉ Region.ready md ops listed := by
  intro u hu hr
  obtain ⟨-, o, ho, hall⟩ := mem_ready.1 hr
  have h1 := List.all_eq_true.1 hw u hu
  rw [ho] at h1
  simp only [Array.any_eq_true', Bool.and_eq_true, Bool.or_eq_true, beq_iff_eq, List.contains_iff_mem] at h1
  obtain ⟨e, he, hb, hon⟩ := h1
  have h2 := hall e he hb
  have h3 : listed.getD e.on true = false := by
    rcases hon with hon | hon
    · rw [hon]; exact hi
    · exact hU _ hon
  rw [getD_low h3] at h2
  cases h2
theorem free_on {i j : Nat} {oi : Oper} {listed : Array Bool} (hjun : listed.getD j true = false)
    (hfree : ∀ k ok, ops[k]? = some ok → k ≠ i → listed.getD k true = false → (∀ e ∈ ok.after, Region.binds md e = true → e.on ≠ i) → oi.apart ops ok = true) :
    ∀ k ok, ops[k]? = some ok → k ≠ i → (listed.setIfInBounds j true).getD k true = false → (∀ e ∈ ok.after, Region.binds md e = true → e.on ≠ i) → oi.apart ops ok = true := by
  intro k ok hk hki hun hno
  refine hfree k ok hk hki ?_ hno
  by_cases e : j = k
  · subst e; exact hjun
  · rwa [getD_set_ne true e] at hun
theorem not_after {i j : Nat} {listed : Array Bool} (hi : listed.getD i true = false) {oj : Oper} (hall : ∀ e ∈ oj.after, Region.binds md e = true → listed.getD e.on false = true) : ∀ e ∈ oj.after, Region.binds md e = true → e.on ≠ i := by
  intro e he hb heq
  have h1 := hall e he hb
  rw [heq, getD_low hi] at h1
  cases h1
/-- What yields in every world that meets S is taken first, where number z waits for it. -/
theorem Until.first {i : Nat} {oi : Oper} {v : Value} {U : List Nat} (hi : ops[i]? = some oi) (hsel : ∀ (j : Nat) (o : Oper) cs b, ops[j]? = some o → o.op ≠ .select cs b)
    (hQ : ∀ c a w, Q (.panic c) (a.put oi.dst v) w → Q (.panic c) a w) (hw : waits md ops i U = true) (hz : z ∈ U) (hzi : i ≠ z) :
    ∀ (f : Nat) (listed : Array Bool) (a : Act) (w : World),
      (∀ k ok, ops[k]? = some ok → k ≠ i → listed.getD k true = false → (∀ e ∈ ok.after, Region.binds md e = true → e.on ≠ i) → oi.apart ops ok = true) →
      i ∈ Region.ready md ops listed → unlisted listed U → YieldsIf P ops S oi v a → S w →
      Until P md ops Q S z f (listed.setIfInBounds i true) (a.put oi.dst v) w → Until P md ops Q S z (f + 1) listed a w := by
  intro f
  induction f with
  | zero =>
    intro listed a w _ hr hU hy hS H
    refine ⟨fun h => (by rw [h] at hr; cases hr), fun j hj => ?_⟩
    by_cases hji : j = i
    · subst hji
      exact hy.wpOp hi hS (by rw [if_neg hzi]; exact ⟨hS, H⟩)
    · have := ready_mono hj hji
      rw [H.1] at this
      cases this
  | succ f ih =>
    intro listed a w hfree hr hU hy hS H
    refine ⟨fun h => (by rw [h] at hr; cases hr), fun j hj => ?_⟩
    by_cases hji : j = i
    · subst hji
      exact hy.wpOp hi hS (by rw [if_neg hzi]; exact ⟨hS, H⟩)
    · have hi0 := (mem_ready.1 hr).1
      have hno := waits_not hw hi0 hU
      have hjz : j ≠ z := fun e => hno z hz (e ▸ hj)
      obtain ⟨hjun, oj, hoj, hall⟩ := mem_ready.1 hj
      have h1 := H.2 j (ready_mono hj hji)
      simp only [if_neg hjz] at h1 ⊢
      have h2 := wpOp_putIf hoj (hfree j oj hoj hji hjun (not_after (j := j) hi0 hall)) (fun cs b => hsel i oi cs b hi) (fun cs b => hsel j oj cs b hoj) hQ hy h1
      refine wpOp_mono (fun a' w' h3 => ⟨h3.2.1, ih (listed.setIfInBounds j true) a' w' (free_on hjun hfree) (ready_mono hr (Ne.symm hji)) ?_ h3.1 h3.2.1 ?_⟩) h2
      · intro u hu
        have : j ≠ u := fun e => hno u hu (e ▸ hj)
        rw [getD_set_ne true this]
        exact hU u hu
      · rw [Array.setIfInBounds_comm _ _ hji]
        exact h3.2.2
/-- What yields in whatever world is taken first. -/
theorem Until.firstY {i : Nat} {oi : Oper} {v : Value} (hi : ops[i]? = some oi) (hsel : ∀ (j : Nat) (o : Oper) cs b, ops[j]? = some o → o.op ≠ .select cs b)
    (hQ : ∀ c a w, Q (.panic c) (a.put oi.dst v) w → Q (.panic c) a w) (hzi : i ≠ z) :
    ∀ (f : Nat) (listed : Array Bool) (a : Act) (w : World),
      (∀ k ok, ops[k]? = some ok → k ≠ i → listed.getD k true = false → (∀ e ∈ ok.after, Region.binds md e = true → e.on ≠ i) → oi.apart ops ok = true) →
      i ∈ Region.ready md ops listed → YieldsIf P ops (fun _ => True) oi v a → S w →
      Until P md ops Q S z f (listed.setIfInBounds i true) (a.put oi.dst v) w → Until P md ops Q S z (f + 1) listed a w := by
  intro f
  induction f with
  | zero =>
    intro listed a w _ hr hy hS H
    refine ⟨fun h => (by rw [h] at hr; cases hr), fun j hj => ?_⟩
    by_cases hji : j = i
    · subst hji
      exact hy.wpOp hi trivial (by rw [if_neg hzi]; exact ⟨hS, H⟩)
    · have := ready_mono hj hji
      rw [H.1] at this
      cases this
  | succ f ih =>
    intro listed a w hfree hr hy hS H
    refine ⟨fun h => (by rw [h] at hr; cases hr), fun j hj => ?_⟩
    by_cases hji : j = i
    · subst hji
      exact hy.wpOp hi trivial (by rw [if_neg hzi]; exact ⟨hS, H⟩)
    · have hi0 := (mem_ready.1 hr).1
      obtain ⟨hjun, oj, hoj, hall⟩ := mem_ready.1 hj
      have h1 := H.2 j (ready_mono hj hji)
      have h2 := wpOp_putIf hoj (hfree j oj hoj hji hjun (not_after (j := j) hi0 hall)) (fun cs b => hsel i oi cs b hi) (fun cs b => hsel j oj cs b hoj) hQ hy h1
      refine wpOp_mono (fun a' w' h3 => ?_) h2
      by_cases hjz : j = z
      · have h4 := h3.2
        rw [if_pos hjz] at h4 ⊢
        refine wpAny_first hi hsel hQ f (listed.setIfInBounds j true) a' w' (free_on hjun hfree) (ready_mono hr (Ne.symm hji)) (h3.1.imp (fun ⟨p, q⟩ => ⟨p, fun w => q w trivial⟩) id) ?_
        rw [Array.setIfInBounds_comm _ _ hji]
        exact h4
      · have h4 := h3.2
        rw [if_neg hjz] at h4 ⊢
        refine ⟨h4.1, ih (listed.setIfInBounds j true) a' w' (free_on hjun hfree) (ready_mono hr (Ne.symm hji)) h3.1 h4.1 ?_⟩
        rw [Array.setIfInBounds_comm _ _ hji]
        exact h4.2
theorem Until.take {i : Nat} {oi : Oper} {v : Value} {f : Nat} {listed : Array Bool} {a : Act} {w : World} (U : List Nat) (hi : ops[i]? = some oi)
    (hs : Region.noSelect ops = true) (hf : Region.free md ops listed i = true) (hr : (Region.ready md ops listed).contains i = true) (hw : waits md ops i U = true) (hz : U.contains z = true) (hzi : (i == z) = false)
    (hU : (U.all fun u => !(listed.getD u true)) = true)
    (hQ : ∀ c a w, Q (.panic c) (a.put oi.dst v) w → Q (.panic c) a w) (hy : YieldsIf P ops S oi v a) (hS : S w)
    (h : Until P md ops Q S z f (listed.setIfInBounds i true) (a.put oi.dst v) w) : Until P md ops Q S z (f + 1) listed a w :=
  Until.first hi (Region.noSelect_spec hs) hQ hw (by simpa using hz) (by simpa using hzi) f listed a w (Region.free_spec hi hf) (by simpa using hr) (unlisted_dec hU) hy hS h
theorem Until.takeY {i : Nat} {oi : Oper} {v : Value} {f : Nat} {listed : Array Bool} {a : Act} {w : World} (hi : ops[i]? = some oi)
    (hs : Region.noSelect ops = true) (hf : Region.free md ops listed i = true) (hr : (Region.ready md ops listed).contains i = true) (hzi : (i == z) = false)
    (hQ : ∀ c a w, Q (.panic c) (a.put oi.dst v) w → Q (.panic c) a w) (hy : YieldsIf P ops (fun _ => True) oi v a) (hS : S w)
    (h : Until P md ops Q S z f (listed.setIfInBounds i true) (a.put oi.dst v) w) : Until P md ops Q S z (f + 1) listed a w :=
  Until.firstY hi (Region.noSelect_spec hs) hQ (by simpa using hzi) f listed a w (Region.free_spec hi hf) (by simpa using hr) hy hS h
/-- One alone may come up, ahead of number z. -/
theorem Until.step {i : Nat} {o : Oper} {f : Nat} {listed : Array Bool} {a : Act} {w : World} (hr : Region.ready md ops listed = [i]) (ho : ops[i]? = some o) (hzi : (i == z) = false)
    (h : ∀ K' : Act → World → Prop, Shut (∀ a w, S w → (S w → Until P md ops Q S z f (listed.setIfInBounds i true) a w) → K' a w) → if Region.wanted o (yielded ops a.tmps) = true then Oper.wp P o a w K' Q else K' (a.put o.dst undef) w) :
    Until P md ops Q S z (f + 1) listed a w := by
  refine ⟨fun h0 => (by rw [hr] at h0; cases h0), ?_⟩
  rw [hr]
  intro j hj
  rcases List.mem_singleton.1 hj with rfl
  rw [show (fun a' w' => if j = z then wpAny P md ops Q f (listed.setIfInBounds j true) a' w' else S w' ∧ Until P md ops Q S z f (listed.setIfInBounds j true) a' w') = (fun a' w' => S w' ∧ Until P md ops Q S z f (listed.setIfInBounds j true) a' w') from by
    funext a' w'; rw [if_neg (by simpa using hzi)]]
  exact wpOp_step ho (fun K' hK => h K' (fun a w hS hW => hK a w ⟨hS, hW hS⟩))
/-- Number z comes up: from here on nothing is held. -/
theorem Until.last {o : Oper} {f : Nat} {listed : Array Bool} {a : Act} {w : World} (hr : Region.ready md ops listed = [z]) (ho : ops[z]? = some o)
    (h : ∀ K' : Act → World → Prop, Shut (∀ a w, wpAny P md ops Q f (listed.setIfInBounds z true) a w → K' a w) → if Region.wanted o (yielded ops a.tmps) = true then Oper.wp P o a w K' Q else K' (a.put o.dst undef) w) :
    Until P md ops Q S z (f + 1) listed a w := by
  refine ⟨fun h0 => (by rw [hr] at h0; cases h0), ?_⟩
  rw [hr]
  intro j hj
  rcases List.mem_singleton.1 hj with rfl
  rw [show (fun a' w' => if j = j then wpAny P md ops Q f (listed.setIfInBounds j true) a' w' else S w' ∧ Until P md ops Q S j f (listed.setIfInBounds j true) a' w') = (fun a' w' => wpAny P md ops Q f (listed.setIfInBounds j true) a' w') from by
    funext a' w'; rw [if_pos rfl]]
  exact wpOp_step ho (fun K' hK => h K' hK)
theorem wp_region_until {id : Nat} {a : Act} {w : World} (hm : P.follows .mixedOrders = true) (hS : S w.drew)
    (h : S w.drew → Until P .any ops Q S z ops.size (Array.replicate ops.size false) a w.drew) : (Code.region id ops true).wp P Q a w :=
  wp_region_any hm (Until.any _ _ _ _ (h hS))
end
end Go.Proofs.YtldnmboenfaajaaGreatDoor
namespace Go.Proofs.YtldnmboenfaajaaGreatDoor
open Go.RowKit Go.Shelf
set_option linter.unusedVariables false
/-- The block of a row. -/
theorem row_blkM {X : World} {B n : Nat} {e : TypeId} {s : Nat} {v : Value} {xs : List Value} (h : X.ownsRow B e s v n xs) {r : Nat} (hr : v.ownBlock = some r) : B ≤ r ∧ ∃ cs, X.heap[r]? = some (.cells cs e (0, 0)) := by
  rcases h.2 with ⟨rfl, -⟩ | ⟨g, cap, cur, rfl, hb, hgk, -⟩
  · cases hr
  · cases hr; exact ⟨hb, _, hgk⟩
/-- What came of it, if nothing was wrong. -/
def outL {α : Type} (q : Int) (l : List α) : List α := if q = 0 then l else []
theorem outL_ok {α : Type} {q : Int} (l : List α) (h : q = 0) : outL q l = l := by unfold outL; rw [if_pos h]
theorem outL_bad {α : Type} {q : Int} (l : List α) (h : q ≠ 0) : outL q l = [] := by unfold outL; rw [if_neg h]
end Go.Proofs.YtldnmboenfaajaaGreatDoor
namespace Go.Proofs.YtldnmboenfaajaaGreatDoor
open Go.RowKit
set_option linter.unusedVariables false
/-- The entries in a range. -/
def inL (r : Rg) (l : List En) : List En := l.filter (fun e => Rg.has r e.k)
theorem inL_snoc (r : Rg) (l : List En) (x : En) : inL r (l ++ [x]) = inL r l ++ (if Rg.has r x.k then [x] else []) := by
  unfold inL
  rw [List.filter_append]
  congr 1
  cases h : Rg.has r x.k <;> simp [h]
theorem inL_len (r : Rg) (l : List En) : (inL r l).length ≤ l.length := List.length_filter_le _ _
theorem box3r {w : World} {i : Nat} {a b c : Value} {T : TypeId} (h : w.heap[i]? = some (.cells #[a, b, c] T (0, 0))) : w.cell? ⟨i, 0, none⟩ = some a ∧ w.cell? ⟨i, 1, none⟩ = some b ∧ w.cell? ⟨i, 2, none⟩ = some c :=
  ⟨by rw [cell_of_row _ _ 0 _ _ _ h]; rfl, by rw [cell_of_row _ _ 1 _ _ _ h]; rfl, by rw [cell_of_row _ _ 2 _ _ _ h]; rfl⟩
theorem holdsRef_at {lo hi : ByteArray} {op : Bool} {k : ByteArray} {q : Bool} (h : Rg.has ⟨lo, hi, op⟩ k = q) (w : World) : Calls Tryz.prog 47 #[.agg #[.string lo, .string hi, .bool op], .string k] w fun e w' => e = .returned (.bool q) ∧ Below w.heap.size w w' := by
  subst h; exact holdsRef_any lo hi op k w
end Go.Proofs.YtldnmboenfaajaaGreatDoor
namespace Go.Proofs.YtldnmboenfaajaaGreatDoor
open Go.RowKit
set_option linter.unusedVariables false
end Go.Proofs.YtldnmboenfaajaaGreatDoor

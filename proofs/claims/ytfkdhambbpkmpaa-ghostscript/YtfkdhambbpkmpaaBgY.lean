/-
  Iterators of whose items something is known in the world in which they come: what they may ask of the one who ranges over them, and the law for the loop.
-/
import Derived.Test.YtfkdhambbpkmpaaTeLoop
namespace Go.Proofs.Ytfkdhambbpkmpaa
open Go.RowKit Go.Shelf
set_option linter.unusedVariables false

/-- As SeqO, for items of which Ok is known as they come. -/
def SeqY {α : Type} (P : Program) (g : Nat) (lb : Array Value) (encs : α → Array Value) (Kp : World → World → Prop) (Ok : List α → α → World → Prop) (S Sp : List α → Prop) (N : Nat) (w : World) : Prop :=
  ∀ (m l : Nat) (J Jx : List α → World → Prop) (W : World), Below w.heap.size w W → OwnFrom W.heap.size J → OwnFrom W.heap.size Jx →
    (∀ pre x W1, Ok pre x W1 → J pre W1 → pre.length < N → YieldAt Fence.wide m P l (encs x) W1 fun e W' =>
      KeepsFrom W.heap.size W1 W' ∧ ((e = .returned (.bool true) ∧ J (pre ++ [x]) W' ∧ Kp W1 W') ∨ (e = .returned (.bool false) ∧ Jx (pre ++ [x]) W'))) →
    J [] W →
    Calls P g (#[.func (.yield l) #[] #[]] ++ lb) W fun e W' => (∃ v, e = .returned v) ∧ ((∃ xs, S xs ∧ J xs W') ∨ (∃ pre, Sp pre ∧ Jx pre W'))

theorem SeqY.of_below {α : Type} {P : Program} {g : Nat} {lb : Array Value} {encs : α → Array Value} {Kp : World → World → Prop} {Ok : List α → α → World → Prop} {S Sp : List α → Prop} {N : Nat} {w w' : World} (h : SeqY P g lb encs Kp Ok S Sp N w) (b : Below w.heap.size w w') : SeqY P g lb encs Kp Ok S Sp N w' :=
  fun m l J Jx W hW => h m l J Jx W (b.trans (hW.mono b.size))

/-- A loop over such an iterator. -/
theorem rangeY {P : Program} {n : Nat} {α : Type} {g : Operand} {ps : Array Tmp} {assign body : Code} {Q : Exit → Act → World → Prop} {a : Act} {w : World}
    {gf : Nat} {lb : Array Value} (hg : a.eval g = .func (.func gf) #[] lb) (eg : ∀ args w, (callFunc gf args).run P w = .ok (.enter gf args) w)
    {encs : α → Array Value} {Kp : World → World → Prop} {S Sp : List α → Prop} {N : Nat} {w0 : World} {Ok : List α → α → World → Prop} (hseq : SeqY P gf lb encs Kp Ok S Sp N w0)
    (hKt : ∀ {A B C : World}, Kp A B → Kp B C → Kp A C) (hKb : ∀ (W : World) (l : Nat) (o o' : Obj), w.heap.size ≤ l → W.heap[l]? = some o → o.isCells = false → Kp W (W.putObj l o')) (hb0 : Below w0.heap.size w0 w) (hps : ∀ x, (encs x).size = ps.size)
    (I : List α → World → Prop) (Ix : Code → List α → World → Prop) (hI : OwnFrom w.heap.size I) (hIx : ∀ c, OwnFrom w.heap.size (Ix c)) (h0 : I [] w) (Ax : List α → α → Act → World → Prop) (hAx : ∀ pre x a', OwnFrom w.heap.size (fun (_ : Unit) W => Ax pre x a' W))
    (hassign : ∀ (l : Nat) (pre : List α) (x : α) (W : World) (K : Act → World → Prop), Ok pre x W → I pre W → (∀ a' W', KeepsFrom w.heap.size W W' → Kp W W' → I pre W' → Ax pre x a' W' → K a' W') →
      assign.wpIn (Fence.wide.inRound l) (n - 1 - 1) P (Exit.then K (fun _ _ _ => False)) { tmps := (ps.zip (encs x)).foldl (fun t (p, v) => t.setIfInBounds p v) a.tmps, defers := [] } W)
    (hbody : ∀ (l : Nat) (pre : List α) (x : α) (a' : Act) (W : World), I pre W → Ax pre x a' W → pre.length < N → body.wpIn (Fence.wide.inRound l) (n - 1 - 1) P (ownPostG w.heap.size Kp I Ix (pre ++ [x]) W) a' W)
    (hdone : ∀ (D : Nat) (xs : List α) (W : World), w.heap.size ≤ D → S xs → I xs W → W.heap[D]? = some (.deferred (some [])) → Q .normal { a with defers := { target := .collected D, args := #[] } :: a.defers } W)
    (hstop : ∀ (D : Nat) (c : Code) (pre : List α) (W : World), w.heap.size ≤ D → Sp pre → Ix c pre W → W.heap[D]? = some (.deferred (some [])) → c.wpIn Fence.wide n P Q { a with defers := { target := .collected D, args := #[] } :: a.defers } W) :
    (Code.rangeFunc g ps assign body).wpIn Fence.wide n P Q a w := by
  refine wpIn_rangeFunc fun fn hfn => ?_
  obtain ⟨B, hB⟩ : ∃ B, w.heap.size = B := ⟨_, rfl⟩
  obtain ⟨R, hR⟩ : ∃ R : LoopState → Option Code → Loop, R = fun st pe => { state := st, pending := pe, fn, tmps := a.tmps, params := ps, assign, body, defers := B } := ⟨_, rfl⟩
  obtain ⟨V, hV⟩ : ∃ V, (w.alloc (.deferred (some []))).alloc (.loop (R .ready none)) = V := ⟨_, rfl⟩
  have bV : Below w.heap.size w V := by rw [← hV]; exact ((Below.refl _ w).alloc (Nat.le_refl _) _).alloc (by simp) _
  have sV : V.heap.size = B + 2 := by rw [← hV, ← hB]; simp
  have kV : Bk B (R .ready none) V := by
    rw [← hV, ← hB]
    have h2 := heap_alloc_new (w.alloc (.deferred (some []))) (.loop (R .ready none))
    rw [World.size_alloc] at h2
    exact ⟨h2, (Below.heap_alloc _ _ _ (by simp)).trans (heap_alloc_new w _)⟩
  have iV : I [] V := by rw [← hV]; exact hI.alloc _ (hI.alloc _ h0)
  rw [hB] at hI hIx hAx hKb hassign hbody hdone hstop
  refine ⟨B + 1, [{ target := .collected B, args := #[] }], V, { target := .fn (.func gf) lb, args := #[.func (.yield (B + 1)) #[] #[]] }, V, gf, #[.func (.yield (B + 1)) #[] #[]] ++ lb, V, ?_, ?_, fun _ _ => trivial, ?_, fun h => (by cases h), ?_⟩
  · rw [← hV, hR, ← hB]; exact run_enterLoop_outer _ _ _ _ _
  · simp only [resolve, hg]
    simp [go_sem]
  · simp [invoke, go_sem, eg]
  refine callsIn_wide.2 ?_
  -- the iterator is told: the invariant, and the loop's own blocks
  refine (hseq (n - 1 - 1) (B + 1) (fun pre W => I pre W ∧ Bk B (R .ready none) W) (fun pre W => ∃ c, Ix c pre W ∧ Bk B (R .done (some c)) W) V (hb0.trans (bV.mono hb0.size)) (Bk.own hI (by omega))
    (fun s W W' row hs g hr => by
      obtain ⟨c, h1, h2⟩ := hs
      exact ⟨c, Bk.own (hIx c) (Nat.le_of_eq sV.symm) s W W' row ⟨h1, h2⟩ g hr⟩) ?_ ⟨iV, kV⟩).mono ?_
  · rintro pre x W hok ⟨hi, hk⟩ hlen
    have hy := run_yield (P := P) (args := encs x) hk.lp (by rw [hR]; exact hps x)
    rw [hR] at hy
    refine ⟨fn, _, assign, body, hy, roundIn_of_wpIn hfn (hassign _ pre x W _ hok hi ?_)⟩
    intro a' Wa kf kp ia ax
    have ka := hk.kept kf
    refine ⟨_, run_beginRound ka.lp (by rw [hR]), ?_⟩
    have kb := ka.put { R .ready none with state := .busy }
    refine wpIn_mono (hbody _ pre x a' _ (hI.putObj _ ia (by omega) ka.lp rfl) ((hAx pre x a').putObj (s := ()) _ ax (by omega) ka.lp rfl) hlen) ?_
    have turn : ∀ (j : Option Code) (W3 : World), KeepsFrom B (Wa.putObj (B + 1) (.loop { R .ready none with state := .busy })) W3 →
        ∃ W4, KeepsFrom (B + 2) W W4 ∧ W4 = W3.putObj (B + 1) (.loop (R (if j.isNone then .ready else .done) j)) ∧ (Instr.endRound (B + 1) j).run P W3 = .ok (.bool j.isNone) W4 ∧ Bk B (R (if j.isNone then .ready else .done) j) W4 ∧ (∃ o, W3.heap[B + 1]? = some o ∧ o.isCells = false) := fun j W3 k3 => by
      have k4 := kb.kept k3
      have e := run_endRound (P := P) j k4.lp
      refine ⟨_, (((keepsFrom_up kf (by omega)).trans (keepsFrom_put _ _ _ _ (by omega))).trans (keepsFrom_up k3 (by omega))).trans (keepsFrom_put _ _ _ _ (by omega)), rfl, ?_, k4.put _, _, k4.lp, rfl⟩
      rw [hR] at e ⊢
      exact e
    have leave : ∀ (c : Code) (W3 : World), KeepsFrom B (Wa.putObj (B + 1) (.loop { R .ready none with state := .busy })) W3 → Ix c (pre ++ [x]) W3 →
        ∃ W4, KeepsFrom (B + 2) W W4 ∧ (Instr.endRound (B + 1) (some c)).run P W3 = .ok (.bool false) W4 ∧ ∃ c, Ix c (pre ++ [x]) W4 ∧ Bk B (R .done (some c)) W4 := fun c W3 k3 i3 => by
      obtain ⟨W4, kk, rfl, e, k4, o, h1, h2⟩ := turn (some c) W3 k3
      exact ⟨_, kk, e, c, (hIx c).putObj _ i3 (by omega) h1 h2, k4⟩
    rintro ex a3 W3 hp
    cases ex with
    | normal =>
      obtain ⟨W4, kk, rfl, e, k4, o, h1, h2⟩ := turn none W3 hp.1
      exact ⟨_, _, e, (by rw [sV]; exact kk), .inl ⟨rfl, ⟨hI.putObj _ hp.2.2 (by omega) h1 h2, k4⟩, hKt kp (hKt (hKt (hKb _ _ _ _ (by omega) ka.lp rfl) hp.2.1) (hKb _ _ _ _ (by omega) h1 h2))⟩⟩
    | ret => obtain ⟨W4, kk, e, i4⟩ := leave .ret W3 hp.1 hp.2; exact ⟨_, _, e, (by rw [sV]; exact kk), .inr ⟨rfl, i4⟩⟩
    | exit id => obtain ⟨W4, kk, e, i4⟩ := leave (.exit id) W3 hp.1 hp.2; exact ⟨_, _, e, (by rw [sV]; exact kk), .inr ⟨rfl, i4⟩⟩
    | goto t => obtain ⟨W4, kk, e, i4⟩ := leave (.goto t) W3 hp.1 hp.2; exact ⟨_, _, e, (by rw [sV]; exact kk), .inr ⟨rfl, i4⟩⟩
    | panic c => exact hp.elim
    | outgrown => exact hp.elim
  · rintro e W2 ⟨⟨v, rfl⟩, ⟨xs, hS, hi, hk⟩ | ⟨pre, hSp, c, hi, hk⟩⟩
    · refine ⟨none, _, ?_, hdone B xs _ (Nat.le_refl _) hS (hI.putObj (.loop { R .ready none with state := .exhausted }) hi (by omega) hk.lp rfl) (hk.put _).def_⟩
      have e := run_endLoop (P := P) hk.lp (by rw [hR]; simp)
      rw [hR] at e ⊢
      exact e
    · refine ⟨some c, _, ?_, hstop B c pre _ (Nat.le_refl _) hSp ((hIx c).putObj (.loop { R .done (some c) with state := .exhausted }) hi (by omega) hk.lp rfl) (hk.put _).def_⟩
      have e := run_endLoop (P := P) hk.lp (by rw [hR]; simp)
      rw [hR] at e ⊢
      exact e

end Go.Proofs.Ytfkdhambbpkmpaa

/-
  What TimerKept keeps; a loop over an iterator whose items nobody takes.
-/
import Derived.Test.YtoajgacofmodoaaTmZ
namespace Go.Proofs.Ytoajgacofmodoaa
open Go.RowKit Go.Shelf
set_option linter.unusedVariables false

attribute [local go_sem] Oper.semAt_some
/-- The alarms behind k steps more. -/
def runF (R : Nat → Sop) (L : List Alm) : Nat → List Alm
  | 0 => L
  | k + 1 => stepL (R k).kind (R k).o (R k).l (R k).n (R k).at_ (runF R L k)
theorem runF_len (R : Nat → Sop) (L : List Alm) : ∀ k, (runF R L k).length ≤ L.length + k
  | 0 => Nat.le_refl _
  | k + 1 => by
    have h1 := runF_len R L k
    have h2 := stepL_len (R k).kind (R k).o (R k).l (R k).n (R k).at_ (runF R L k)
    show (stepL (R k).kind (R k).o (R k).l (R k).n (R k).at_ (runF R L k)).length ≤ L.length + (k + 1)
    omega
/-- No other box is turned by a step. -/
theorem Pr.off {w : World} {pt bt pd : Nat} {L : List Alm} (h : Pr w pt bt pd L) {q : Nat} {cs : Array Value} {e : TypeId} (hq : w.heap[q]? = some (.cells cs e (0, 0))) (he : e ≠ 52) : ¬ OnP bt pd q := fun e9 => by
  rcases e9 with e9 | e9
  · exact h.t.far _ _ _ hq e9
  · obtain ⟨v, h2, -⟩ := h.d
    rw [e9, h2] at hq
    simp at hq
    exact he hq.2.symm
/-- The pair, the result's box, what was due, the iterator. -/
structure KeS (w : World) (q6 qb q9 q10 pt bt pd : Nat) (L : List Alm) (a2 : Option Addr) (c2 d : Nat) (a : Option Addr) (n c : Nat) (l : List Alm) (X : World) : Prop where
  dr : DrI w qb pt bt pd L X
  k6 : X.heap[q6]? = some (.cells #[.bool false] 4 (0, 0))
  k9 : X.heap[q9]? = some (.cells #[.slice a2 n c2] 50 (0, 0))
  k10 : X.heap[q10]? = some (.cells #[.func (.func 27) #[] #[.pointer (some ⟨d, 0, none⟩)]] 48 (0, 0))
  wt : AlIn 57 X a2 n c2 l
  dd : DD d a n c l X
theorem KeS.below {w : World} {q6 qb q9 q10 pt bt pd : Nat} {L : List Alm} {a2 : Option Addr} {c2 d : Nat} {a : Option Addr} {n c : Nat} {l : List Alm} {X Y : World} (h : KeS w q6 qb q9 q10 pt bt pd L a2 c2 d a n c l X) (b : Below X.heap.size X Y) : KeS w q6 qb q9 q10 pt bt pd L a2 c2 d a n c l Y := ⟨h.dr.below b, blk_on h.k6 b, blk_on h.k9 b, blk_on h.k10 b, h.wt.on b, h.dd.keep b⟩
theorem KeS.step {w : World} {q6 qb q9 q10 pt bt pd : Nat} {L : List Alm} {a2 : Option Addr} {c2 d : Nat} {a : Option Addr} {n c : Nat} {l : List Alm} {M : List Alm} {X Y : World} (h : KeS w q6 qb q9 q10 pt bt pd L a2 c2 d a n c l X) (p : Pr Y pt bt pd M) (k : Keeps (OnP bt pd) X Y) : KeS w q6 qb q9 q10 pt bt pd M a2 c2 d a n c l Y :=
  ⟨h.dr.step p k, blk_keep h.k6 k (h.dr.pr.off h.k6 (by decide)), blk_keep h.k9 k (h.dr.pr.off h.k9 (by decide)), blk_keep h.k10 k (h.dr.pr.off h.k10 (by decide)), h.wt.keep k (fun i cs hi => h.dr.pr.off hi (by decide)), h.dd.keeps k (fun i cs hi => h.dr.pr.off hi (by decide)) (fun i cs hi => h.dr.pr.off hi (by decide))⟩
theorem DrI.own {w : World} {qb pt bt pd : Nat} {L : List Alm} {A Y : World} {row : Option Nat} {B : Nat} (h : DrI w qb pt bt pd L A) (hb : bt < B) (hw : w.heap.size ≤ B) (hg : A.grownBy Y row) (hr : ∀ r, row = some r → B ≤ r ∧ ∃ o : Obj, A.heap[r]? = some o ∧ o.isCells = false) : DrI w qb pt bt pd L Y := by
  have K : Keeps (fun k => row = some k) A Y := (Keeps.refl _ A).grown hg (fun k e _ => e)
  have nc : ∀ (i : Nat) (cs : Array Value) (e : TypeId), A.heap[i]? = some (.cells cs e (0, 0)) → ¬ row = some i := fun i cs e hi e9 => by
    obtain ⟨o, h1, h2⟩ := (hr i e9).2
    rw [hi] at h1
    injection h1 with h1
    subst h1
    cases h2
  have nb : ¬ row = some bt := fun e9 => by have := (hr bt e9).1; omega
  obtain ⟨v, hv, hrow⟩ := h.pr.d
  exact ⟨blk_keep h.bx K (nc _ _ _ h.bx), ⟨h.pr.t.keep K (nc _ _ _ h.pr.t.1) nb, h.pr.d.keep K (nc _ _ _ hv) (fun i cs hi => nc _ _ _ hi)⟩, h.bel.trans (K.below (B := w.heap.size) h.bel.size (fun j hj e => by have := (hr j e).1; omega)), h.ge⟩
theorem KeS.own {w : World} {q6 qb q9 q10 pt bt pd : Nat} {L : List Alm} {a2 : Option Addr} {c2 d : Nat} {a : Option Addr} {n c : Nat} {l : List Alm} {A Y : World} {row : Option Nat} {B : Nat} (h : KeS w q6 qb q9 q10 pt bt pd L a2 c2 d a n c l A) (hb : bt < B) (hw : w.heap.size ≤ B) (hg : A.grownBy Y row) (hr : ∀ r, row = some r → B ≤ r ∧ ∃ o : Obj, A.heap[r]? = some o ∧ o.isCells = false) : KeS w q6 qb q9 q10 pt bt pd L a2 c2 d a n c l Y :=
  ⟨h.dr.own hb hw hg hr, cells_ownA h.k6 hg (fun r e => (hr r e).2), cells_ownA h.k9 hg (fun r e => (hr r e).2), cells_ownA h.k10 hg (fun r e => (hr r e).2), h.wt.own hg (fun r e => (hr r e).2), h.dd.own hg (fun r e => (hr r e).2)⟩
/-- A loop over an iterator whose items nobody takes. -/
theorem rangeXs {P : Program} {n : Nat} {α : Type} {g : Operand} {ps : Array Tmp} {body : Code} {Q : Exit → Act → World → Prop} {a : Act} {w : World}
    {gf : Nat} {lb : Array Value} (hg : a.eval g = .func (.func gf) #[] lb) (eg : ∀ args w, (callFunc gf args).run P w = .ok (.enter gf args) w)
    {encs : α → Array Value} {Kp : World → World → Prop} {S Sp : List α → Prop} {N : Nat} {w0 : World} {Ok : List α → α → Prop} (hseq : SeqX P gf lb encs Kp Ok S Sp N w0)
    (hKt : ∀ {A B C : World}, Kp A B → Kp B C → Kp A C) (hKr : ∀ A, Kp A A) (hKb : ∀ (W : World) (l : Nat) (o o' : Obj), w.heap.size ≤ l → W.heap[l]? = some o → o.isCells = false → Kp W (W.putObj l o')) (hb0 : Below w0.heap.size w0 w) (hps : ∀ x, (encs x).size = ps.size)
    (I : List α → World → Prop) (Ix : Code → List α → World → Prop) (hI : OwnFrom w.heap.size I) (hIx : ∀ c, OwnFrom w.heap.size (Ix c)) (h0 : I [] w)
    (hbody : ∀ (l : Nat) (pre : List α) (x : α) (W : World), I pre W → pre.length < N → Ok pre x → body.wpIn (Fence.wide.inRound l) (n - 1 - 1) P (ownPostG w.heap.size Kp I Ix (pre ++ [x]) W) { tmps := (ps.zip (encs x)).foldl (fun t (p, v) => t.setIfInBounds p v) a.tmps, defers := [] } W)
    (hdone : ∀ (D : Nat) (xs : List α) (W : World), w.heap.size ≤ D → S xs → I xs W → W.heap[D]? = some (.deferred (some [])) → Q .normal { a with defers := { target := .collected D, args := #[] } :: a.defers } W)
    (hstop : ∀ (D : Nat) (c : Code) (pre : List α) (W : World), w.heap.size ≤ D → Sp pre → Ix c pre W → W.heap[D]? = some (.deferred (some [])) → c.wpIn Fence.wide n P Q { a with defers := { target := .collected D, args := #[] } :: a.defers } W) :
    (Code.rangeFunc g ps .skip body).wpIn Fence.wide n P Q a w := by
  refine rangeX hg eg hseq hKt hKb hb0 hps I Ix hI hIx h0 (fun x a' _ => a' = { tmps := (ps.zip (encs x)).foldl (fun t (p, v) => t.setIfInBounds p v) a.tmps, defers := [] }) (fun x a' _ A Y row hs _ _ => hs) ?_ ?_ hdone hstop
  · intro l pre x W K hi hK
    refine wpIn_skip ?_
    exact hK _ _ ⟨Nat.le_refl _, fun _ _ _ h _ => h⟩ (hKr W) hi rfl
  · rintro l pre x a' W hi rfl hlen hok
    exact hbody l pre x W hi hlen hok

end Go.Proofs.Ytoajgacofmodoaa

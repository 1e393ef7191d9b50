/-
  What the law BagScript keeps: the code's bag, the document's, and iterators that were handed out, each with what it must tell.
-/
import Derived.Test.YteaaamhojiognaaBgGp
namespace Go.Proofs.Yteaaamhojiognaa
open Go.RowKit
set_option linter.unusedVariables false

/-- An iterator that was handed out, and what it must tell. -/
structure Wk where
  u : Nat
  a : Option Addr
  n : Nat
  l0 : List Pk
  a2 : Option Addr
  c2 : Nat
  l2 : List Pk
def wkV (k : Wk) : List Value := [.func (.func 34) #[] #[.pointer (some ⟨k.u, 0, none⟩)], .slice k.a2 k.n k.c2]
theorem wkF : RowF wkV 2 := ⟨fun _ => rfl, fun e u hu => by simp [wkV] at hu; rcases hu with rfl | rfl <;> rfl, by decide⟩
theorem infoWk : (Try.prog.info? 51).map (fun i => (i.zero, i.size, i.bytes)) = some (some (.agg #[Value.nilFunc, .slice none 0 0]), 2, 32) := by kernel_rfl
abbrev pkOwn (p : Pk) : Option Nat := (Value.slice p.da p.dl p.dc).ownBlock
/-- It is whole: what was in the bag lies there yet, and the document's row lies apart. -/
structure WkOk (B : Nat) (E : Nat → Prop) (W : World) (k : Wk) (v : Value) (l : List Pk) (vR : Value) : Prop where
  hd : Handed W k.u k.a k.n k.l0 v l
  row : W.ownsRow B 39 4 (.slice k.a2 k.n k.c2) k.n (pkCells k.l2)
  dat : ∀ p ∈ k.l2, DatR B W p
  pl : k.l2.map Pk.pl = k.l0.map Pk.pl
  n5 : k.n ≤ 512
  apV : ∀ j, (Value.slice k.a2 k.n k.c2).ownBlock = some j → ¬ v.ownBlock = some j
  apR : ∀ j, (Value.slice k.a2 k.n k.c2).ownBlock = some j → ¬ vR.ownBlock = some j
  apH : ∀ g o, k.a = some ⟨g, o, none⟩ → ¬ vR.ownBlock = some g
  ex0 : ∀ p ∈ k.l0, ∀ j, pkOwn p = some j → ¬ E j
  ex2 : ∀ p ∈ k.l2, ∀ x, p.da = some x → ¬ E x.block
/-- All that is kept; E: blocks of bytes that are no packet's. -/
structure SInv (E : Nat → Prop) (w0 W : World) (b : Nat) (v : Value) (room last lost : Nat) (l : List Pk) (bR : Nat) (vR : Value) (lastR lostR : Nat) (lR : List Pk) (vw : Value) (K : List Wk) : Prop where
  bag : BagAt W w0.heap.size b v room last lost l
  rb : RBag W w0.heap.size bR vR room lastR lostR lR
  ap : ∀ j, v.ownBlock = some j → ¬ vR.ownBlock = some j
  bel : Below w0.heap.size w0 W
  row : W.ownsRow w0.heap.size 51 2 vw K.length (rowC wkV K)
  wk : ∀ k ∈ K, WkOk w0.heap.size E W k v l vR
  exl : ∀ p ∈ l, ∀ j, pkOwn p = some j → ¬ E j
  exr : ∀ p ∈ lR, ∀ x, p.da = some x → ¬ E x.block

theorem Handed.other {S : Nat → Prop} {W W' : World} {u : Nat} {a : Option Addr} {n : Nat} {l0 : List Pk} {v : Value} {l : List Pk} (h : Handed W u a n l0 v l) (k : Keeps S W W') (h1 : ∀ i cs T, W.heap[i]? = some (.cells cs T (0, 0)) → T = 48 → ¬ S i) (h2 : ∀ g o cs, a = some ⟨g, o, none⟩ → W.heap[g]? = some (.cells cs 39 (0, 0)) → ¬ S g) (h3 : ∀ p ∈ l0, ∀ j, pkOwn p = some j → ¬ S j) : Handed W' u a n l0 v l := by
  obtain ⟨r1, r2, r3, r4⟩ := h.row
  refine ⟨blk_keep h.bx k (h1 _ _ _ h.bx rfl), ⟨r1, r2, r3, ?_⟩, fun p hp => (h.dat p hp).keep k (h3 p hp), h.pre⟩
  rcases r4 with r4 | ⟨g, o, cur, e, hg, hc⟩
  · exact .inl r4
  · exact .inr ⟨g, o, cur, e, blk_keep hg k (h2 g o cur e hg), hc⟩
theorem typ_ne {W : World} {i j : Nat} {cs ds : Array Value} {T U : TypeId} {f : Nat × Nat} (h1 : W.heap[i]? = some (.cells cs T (0, 0))) (h2 : W.heap[j]? = some (.cells ds U f)) (hT : T ≠ U) : ¬ i = j := by
  rintro rfl
  rw [h1] at h2
  simp only [Option.some.injEq, Obj.cells.injEq] at h2
  exact hT h2.2.1
theorem DatR.lt {B : Nat} {w : World} {p : Pk} (h : DatR B w p) {x : Addr} (hx : p.da = some x) : x.block < w.heap.size := by
  obtain ⟨h1, h2, g, cur, fr, h3, h4, h5⟩ := h
  rw [h3] at hx
  injection hx with hx
  subst hx
  exact lt_of_blk h5
theorem DatR.ge {B : Nat} {w : World} {p : Pk} (h : DatR B w p) {x : Addr} (hx : p.da = some x) : B ≤ x.block := by
  obtain ⟨h1, h2, g, cur, fr, h3, h4, h5⟩ := h
  rw [h3] at hx
  injection hx with hx
  subst hx
  exact h4

section
variable {E E' : Nat → Prop} {w0 W W' : World} {b : Nat} {v v' : Value} {room last lost last' lost' : Nat} {l l' : List Pk} {bR : Nat} {vR vR' : Value} {lastR lostR lastR' lostR' : Nat} {lR lR' : List Pk} {vw vw' : Value} {K : List Wk} {k : Wk}
theorem WkOk.on {B : Nat} (h : WkOk B E W k v l vR) (bb : Below W.heap.size W W') : WkOk B E W' k v l vR :=
  ⟨h.hd.on bb, own_on h.row bb, fun p hp => (h.dat p hp).on bb, h.pl, h.n5, h.apV, h.apR, h.apH, h.ex0, h.ex2⟩
theorem SInv.on (h : SInv E w0 W b v room last lost l bR vR lastR lostR lR vw K) (bb : Below W.heap.size W W') : SInv E w0 W' b v room last lost l bR vR lastR lostR lR vw K :=
  ⟨h.bag.on bb, h.rb.on bb, h.ap, bthen h.bel bb, own_on h.row bb, fun k hk => (h.wk k hk).on bb, h.exl, h.exr⟩
/-- Blocks that come later are no packet's. -/
theorem SInv.excl (h : SInv E' w0 W b v room last lost l bR vR lastR lostR lR vw K) (hE : ∀ j, E j → W.heap.size ≤ j) : SInv E w0 W b v room last lost l bR vR lastR lostR lR vw K :=
  ⟨h.bag, h.rb, h.ap, h.bel, h.row, fun k hk => by
    have hw := h.wk k hk
    exact ⟨hw.hd, hw.row, hw.dat, hw.pl, hw.n5, hw.apV, hw.apR, hw.apH, fun p hp j hj he => by have h1 := ((hw.hd.dat p hp).1.lt j hj).2; have h2 := hE j he; omega, fun p hp x hx he => by have h1 := (hw.dat p hp).lt hx; have h2 := hE _ he; omega⟩,
    fun p hp j hj he => by have h1 := ((h.bag.dat p hp).1.lt j hj).2; have h2 := hE j he; omega,
    fun p hp x hx he => by have h1 := (h.rb.dat p hp).lt hx; have h2 := hE _ he; omega⟩
theorem SInv.weak (h : SInv E w0 W b v room last lost l bR vR lastR lostR lR vw K) (hE : ∀ j, E' j → E j) : SInv E' w0 W b v room last lost l bR vR lastR lostR lR vw K :=
  ⟨h.bag, h.rb, h.ap, h.bel, h.row, fun k hk => by
    have hw := h.wk k hk
    exact ⟨hw.hd, hw.row, hw.dat, hw.pl, hw.n5, hw.apV, hw.apR, hw.apH, fun p hp j hj he => hw.ex0 p hp j hj (hE j he), fun p hp x hx he => hw.ex2 p hp x hx (hE _ he)⟩,
    fun p hp j hj he => h.exl p hp j hj (hE j he), fun p hp x hx he => h.exr p hp x hx (hE _ he)⟩
theorem SInv.rb_not (h : SInv E w0 W b v room last lost l bR vR lastR lostR lR vw K) : ¬ BgS b v bR ∧ (∀ j, vR.ownBlock = some j → ¬ BgS b v j) ∧ ∀ p ∈ lR, ∀ x, p.da = some x → ¬ BgS b v x.block := by
  refine ⟨?_, fun j hj hs => ?_, fun p hp x hx hs => ?_⟩
  · rintro (e | e)
    · exact typ_ne h.rb.bx h.bag.bx (by decide) e
    · exact own_typed h.bag.row h.rb.bx (by decide) e
  · rcases hs with e | e
    · subst e; exact own_typed h.rb.row h.bag.bx (by decide) hj
    · exact h.ap j e hj
  · rcases hs with e | e
    · exact (h.rb.dat p hp).typed h.bag.bx (by decide) x hx e
    · exact (h.rb.dat p hp).row h.bag.row (by decide) x hx e
/-- A call on the code's bag. -/
theorem SInv.turnC (h : SInv E w0 W b v room last lost l bR vR lastR lostR lR vw K) (kk : Keeps (BgS b v) W W') (h' : BagAt W' w0.heap.size b v' room last' lost' l')
    (hs : (v'.ownBlock = v.ownBlock ∧ l <+: l') ∨ ((∀ g, v'.ownBlock = some g → W.heap.size ≤ g) ∧ Keeps (fun x => x = b) W W')) (hx : ∀ p ∈ l', ∀ j, pkOwn p = some j → ¬ E j) : SInv E w0 W' b v' room last' lost' l' bR vR lastR lostR lR vw K := by
  have far := h.rb_not
  have hv : ∀ j, v'.ownBlock = some j → v.ownBlock = some j ∨ W.heap.size ≤ j := fun j hj => by
    rcases hs with ⟨e, -⟩ | ⟨e, -⟩
    · exact .inl (e ▸ hj)
    · exact .inr (e j hj)
  refine ⟨h', h.rb.keep kk far.1 far.2.1 far.2.2, fun j h1 h2 => ?_, h.bel.trans (h.bag.below kk h.bel.size), ownsRow_keep h.row kk (fun j hj hs => ?_), fun k hk => ?_, hx, h.exr⟩
  · rcases hv j h1 with h3 | h3
    · exact h.ap j h3 h2
    · have := (h.rb.row.lt j h2).2; omega
  · rcases hs with e | e
    · subst e; exact own_typed h.row h.bag.bx (by decide) hj
    · exact own_apart h.row h.bag.row (by decide) e hj
  · have hw := h.wk k hk
    refine ⟨hw.hd.turn h.bag h' kk hs, ownsRow_keep hw.row kk (fun j hj hs => ?_), fun p hp => (hw.dat p hp).keep kk (fun x hx hs => ?_), hw.pl, hw.n5, fun j h1 h2 => ?_, hw.apR, hw.apH, hw.ex0, hw.ex2⟩
    · rcases hs with e | e
      · subst e; exact own_typed hw.row h.bag.bx (by decide) hj
      · exact hw.apV j hj e
    · rcases hs with e | e
      · exact (hw.dat p hp).typed h.bag.bx (by decide) x hx e
      · exact (hw.dat p hp).row h.bag.row (by decide) x hx e
    · rcases hv j h2 with h3 | h3
      · exact hw.apV j h1 h3
      · have := (hw.row.lt j h1).2; omega
/-- A call on the document's bag. -/
theorem SInv.turnR (h : SInv E w0 W b v room last lost l bR vR lastR lostR lR vw K) (kk : Keeps (BgS bR vR) W W') (h' : RBag W' w0.heap.size bR vR' room lastR' lostR' lR')
    (hv : ∀ j, vR'.ownBlock = some j → vR.ownBlock = some j ∨ W.heap.size ≤ j) (hx : ∀ p ∈ lR', ∀ x, p.da = some x → ¬ E x.block) : SInv E w0 W' b v room last lost l bR vR' lastR' lostR' lR' vw K := by
  have hrow : ∀ {B : Nat} {p : Pk}, Dat B W p → ∀ j, pkOwn p = some j → ¬ BgS bR vR j := fun hp j hj hs => by
    rcases hs with e | e
    · subst e; exact own_typed hp.1 h.rb.bx (by decide) hj
    · exact own_apart hp.1 h.rb.row (by decide) e hj
  refine ⟨h.bag.keep kk ?_ (fun j hj hs => ?_) (fun p hp => hrow (h.bag.dat p hp)), h', fun j h1 h2 => ?_, h.bel.trans (h.rb.below kk h.bel.size), ownsRow_keep h.row kk (fun j hj hs => ?_), fun k hk => ?_, h.exl, hx⟩
  · rintro (e | e)
    · exact typ_ne h.bag.bx h.rb.bx (by decide) e
    · exact own_typed h.rb.row h.bag.bx (by decide) e
  · rcases hs with e | e
    · subst e; exact own_typed h.bag.row h.rb.bx (by decide) hj
    · exact h.ap j hj e
  · rcases hv j h2 with h3 | h3
    · exact h.ap j h1 h3
    · have := (h.bag.row.lt j h1).2; omega
  · rcases hs with e | e
    · subst e; exact own_typed h.row h.rb.bx (by decide) hj
    · exact own_apart h.row h.rb.row (by decide) e hj
  · have hw := h.wk k hk
    refine ⟨hw.hd.other kk (fun i cs T hi hT hs => ?_) (fun g o cs e hg hs => ?_) (fun p hp => hrow (hw.hd.dat p hp)), ownsRow_keep hw.row kk (fun j hj hs => ?_), fun p hp => (hw.dat p hp).keep kk (fun x hx hs => ?_), hw.pl, hw.n5, hw.apV, fun j h1 h2 => ?_, fun g o e h2 => ?_, hw.ex0, hw.ex2⟩
    · rcases hs with e | e
      · exact typ_ne hi h.rb.bx (by rw [hT]; decide) e
      · exact own_typed h.rb.row hi (by rw [hT]; decide) e
    · rcases hs with e2 | e2
      · exact typ_ne hg h.rb.bx (by decide) e2
      · exact hw.apH g o e e2
    · rcases hs with e | e
      · subst e; exact own_typed hw.row h.rb.bx (by decide) hj
      · exact hw.apR j hj e
    · rcases hs with e | e
      · exact (hw.dat p hp).typed h.rb.bx (by decide) x hx e
      · exact (hw.dat p hp).row h.rb.row (by decide) x hx e
    · rcases hv j h2 with h3 | h3
      · exact hw.apR j h1 h3
      · have := (hw.row.lt j h1).2; omega
    · rcases hv g h2 with h3 | h3
      · exact hw.apH g o e h3
      · obtain ⟨-, -, -, ⟨r4, -⟩ | ⟨g2, o2, cur, e3, hg, hc⟩⟩ := hw.hd.row
        · rw [r4] at e; cases e
        · rw [e] at e3
          injection e3 with e3
          injection e3 with e3
          subst e3
          have h5 := lt_of_blk hg
          omega
/-- Bytes that are no packet's are written over. -/
theorem SInv.byte (h : SInv E w0 W b v room last lost l bR vR lastR lostR lR vw K) (kk : Keeps E W W') (hT : ∀ j, E j → ∃ cs, W.heap[j]? = some (.cells cs 5 (0, 0))) (hB : ∀ j, E j → w0.heap.size ≤ j) : SInv (fun _ => False) w0 W' b v room last lost l bR vR lastR lostR lR vw K := by
  have ty : ∀ i cs T, W.heap[i]? = some (.cells cs T (0, 0)) → T ≠ 5 → ¬ E i := fun i cs T hi hTT he => by
    obtain ⟨ds, hd⟩ := hT i he
    exact typ_ne hi hd hTT rfl
  have ro : ∀ {B e s n : Nat} {u : Value} {xs : List Value}, W.ownsRow B e s u n xs → e ≠ 5 → ∀ j, u.ownBlock = some j → ¬ E j := fun hr hTT j hj he => by
    obtain ⟨ds, hd⟩ := hT j he
    exact own_typed hr hd hTT hj
  refine ⟨h.bag.keep kk (ty _ _ _ h.bag.bx (by decide)) (ro h.bag.row (by decide)) h.exl, h.rb.keep kk (ty _ _ _ h.rb.bx (by decide)) (ro h.rb.row (by decide)) h.exr, h.ap, h.bel.trans (kk.below h.bel.size (fun j hj he => by have := hB j he; omega)), ownsRow_keep h.row kk (ro h.row (by decide)), fun k hk => ?_, fun p hp j hj he => he, fun p hp x hx he => he⟩
  have hw := h.wk k hk
  exact ⟨hw.hd.other kk (fun i cs T hi hTT => ty i cs T hi (by rw [hTT]; decide)) (fun g o cs e hg => ty g cs _ hg (by decide)) hw.ex0, ownsRow_keep hw.row kk (ro hw.row (by decide)), fun p hp => (hw.dat p hp).keep kk (hw.ex2 p hp), hw.pl, hw.n5, hw.apV, hw.apR, hw.apH, fun p hp j hj he => he, fun p hp x hx he => he⟩
/-- One iterator more. -/
theorem SInv.more (h : SInv E w0 W b v room last lost l bR vR lastR lostR lR vw K) (kk : Keeps (fun x => vw.ownBlock = some x) W W') (hr : W'.ownsRow w0.heap.size 51 2 vw' (K ++ [k]).length (rowC wkV (K ++ [k]))) (hk : WkOk w0.heap.size E W k v l vR) : SInv E w0 W' b v room last lost l bR vR lastR lostR lR vw' (K ++ [k]) := by
  have ty : ∀ i cs T, W.heap[i]? = some (.cells cs T (0, 0)) → T ≠ 51 → ¬ vw.ownBlock = some i := fun i cs T hi hTT he => own_typed h.row hi (Ne.symm hTT) he
  have ro : ∀ {B e s n : Nat} {u : Value} {xs : List Value}, W.ownsRow B e s u n xs → e ≠ 51 → ∀ j, u.ownBlock = some j → ¬ vw.ownBlock = some j := fun hr hTT j hj he => own_apart h.row hr (Ne.symm hTT) hj he
  have dr : ∀ {B : Nat} {p : Pk}, DatR B W p → ∀ x, p.da = some x → ¬ vw.ownBlock = some x.block := fun hp x hx he => hp.row h.row (by decide) x hx he
  have go : ∀ k, WkOk w0.heap.size E W k v l vR → WkOk w0.heap.size E W' k v l vR := fun k hw =>
    ⟨hw.hd.other kk (fun i cs T hi hTT => ty i cs T hi (by rw [hTT]; decide)) (fun g o cs e hg => ty g cs _ hg (by decide)) (fun p hp => ro (hw.hd.dat p hp).1 (by decide)), ownsRow_keep hw.row kk (ro hw.row (by decide)), fun p hp => (hw.dat p hp).keep kk (dr (hw.dat p hp)), hw.pl, hw.n5, hw.apV, hw.apR, hw.apH, hw.ex0, hw.ex2⟩
  refine ⟨h.bag.keep kk (ty _ _ _ h.bag.bx (by decide)) (ro h.bag.row (by decide)) (fun p hp => ro (h.bag.dat p hp).1 (by decide)), h.rb.keep kk (ty _ _ _ h.rb.bx (by decide)) (ro h.rb.row (by decide)) (fun p hp => dr (h.rb.dat p hp)), h.ap, h.bel.trans (kk.below h.bel.size (fun j hj he => by have := (h.row.lt j he).1; omega)), hr, fun k2 hk2 => ?_, h.exl, h.exr⟩
  rcases List.mem_append.1 hk2 with h3 | h3
  · exact go k2 (h.wk k2 h3)
  · rcases List.mem_singleton.1 h3 with rfl
    exact go k2 hk
/-- As All hands it out, with what the document's All tells. -/
theorem SInv.walk {X X1 X2 : World} {u : Nat} {a a2 : Option Addr} {c c2 : Nat} {l2 : List Pk} (h : SInv (fun _ => False) w0 X b (.slice a l.length c) room last lost l bR vR lastR lostR lR vw K) (k1 : Below X.heap.size X X1) (hu : X1.heap[u]? = some (.cells #[.slice a l.length l.length] 48 (0, 0))) (hpl : lR.map Pk.pl = l.map Pk.pl) (hst : AllSt X1 X2 lR lR.length a2 c2 l2) : WkOk w0.heap.size (fun _ => False) X2 ⟨u, a, l.length, l, a2, c2, l2⟩ (.slice a l.length c) l vR := by
  have hll : lR.length = l.length := by simpa using congrArg List.length hpl
  have hb : w0.heap.size ≤ X1.heap.size := Nat.le_trans h.bel.size k1.size
  have hrow := hst.row
  rw [hll] at hrow
  have hs2 := hst.bel.size
  refine ⟨(Handed.fresh h.bag k1 hu).on hst.bel, own_low hrow hb, fun p hp => (hst.dat p hp).low hb, ?_, ?_, fun j h1 h2 => ?_, fun j h1 h2 => ?_, fun g o e h2 => ?_, fun p hp j hj he => he, fun p hp x hx he => he⟩
  · show l2.map Pk.pl = l.map Pk.pl
    rw [hst.pl, List.take_length, hpl]
  · show l.length ≤ 512
    have h1 := h.bag.le; have h2 := h.bag.r2; omega
  · have h3 := (h.bag.row.lt j h2).2; have h4 := (hrow.lt j h1).1; have h5 := k1.size; omega
  · have h3 := (h.rb.row.lt j h2).2; have h4 := (hrow.lt j h1).1; have h5 := k1.size; omega
  · rcases h.bag.row.2 with ⟨e3, hx⟩ | ⟨g2, cap, cur, e3, -⟩
    · injection e3 with e3 _ _
      have e' : a = some ⟨g, o, none⟩ := e
      rw [e3] at e'; cases e'
    · injection e3 with e3 _ _
      have e' : a = some ⟨g, o, none⟩ := e
      rw [e3] at e'
      injection e' with e'
      injection e' with e'
      subst e'
      exact h.ap g2 (by rw [e3]; rfl) h2
theorem WkOk.parts {B : Nat} (h : WkOk B E W k v l vR) : W.heap[k.u]? = some (.cells #[.slice k.a k.n k.n] 48 (0, 0)) ∧ PkRow W k.a k.n k.n k.l0 ∧ (∀ p ∈ k.l0, Dat 0 W p) ∧ PkIn W k.a2 k.n k.c2 k.l2 ∧ (∀ p ∈ k.l2, ByIn W p.da p.dl p.dc p.L) :=
  ⟨h.hd.bx, h.hd.row, h.hd.dat, PkIn.of_own h.row, fun p hp => (h.dat p hp).1⟩
end
end Go.Proofs.Yteaaamhojiognaa

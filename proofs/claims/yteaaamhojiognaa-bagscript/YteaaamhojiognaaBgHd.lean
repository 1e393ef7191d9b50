/-
  All of the code's bag, and iterators that were handed out: what they tell stays, whatever the bag does.
-/
import Derived.Test.YteaaamhojiognaaBgHK
import Derived.Test.YteaaamhojiognaaBgZ
namespace Go.Proofs.Yteaaamhojiognaa
open Go.RowKit
set_option linter.unusedVariables false

set_option maxHeartbeats 3200000 in
theorem ball_any {w : World} {B b : Nat} {v : Value} {room last lost : Nat} {l : List Pk} (h : BagAt w B b v room last lost l) : Calls Try.prog 20 #[.pointer (some ⟨b, 0, none⟩)] w fun e w' => Below w.heap.size w w' ∧ ∃ u a c, v = .slice a l.length c ∧ e = .returned (.func (.func 34) #[] #[.pointer (some ⟨u, 0, none⟩)]) ∧ w.heap.size ≤ u ∧ w'.heap[u]? = some (.cells #[.slice a l.length l.length] 48 (0, 0)) := by
  have HF := aside (bfront_any h l.length (Nat.le_refl _))
  obtain ⟨x0, x1, x2, x3⟩ := h.cells
  obtain ⟨a, c, rfl, hc1, hc2, -⟩ := own_slice h.row
  obtain ⟨n, hn⟩ : ∃ n, l.length = n := ⟨_, rfl⟩
  rw [hn] at x1 HF ⊢
  have b1 := aside (bnew w (.cells #[.slice a n n] 48))
  have k1 := aside (heap_alloc_new w (.cells #[.slice a n n] 48))
  clear h x0 x2 x3 hn hc1
  go_enter Try.func20, Try.ntmps20
  go_wp2_with fail
  refine HF.out.mono ?_
  rintro e w' ⟨⟨a', c', e1, rfl, -⟩, rfl⟩
  injection e1 with e1 e2 e3
  subst e1 e3
  clear HF
  go_wp2
  go_ret
  exact ⟨b1.out, _, a, c, rfl, rfl, Nat.le_refl _, k1.out⟩

/-- An iterator that was handed out: its box, its frames, and where they lie. -/
structure Handed (W : World) (u : Nat) (a : Option Addr) (n : Nat) (l0 : List Pk) (v : Value) (l : List Pk) : Prop where
  bx : W.heap[u]? = some (.cells #[.slice a n n] 48 (0, 0))
  row : PkRow W a n n l0
  dat : ∀ p ∈ l0, Dat 0 W p
  pre : ∀ g o, a = some ⟨g, o, none⟩ → v.ownBlock = some g → o = 0 ∧ l0 <+: l
theorem Handed.on {W W' : World} {u : Nat} {a : Option Addr} {n : Nat} {l0 : List Pk} {v : Value} {l : List Pk} (h : Handed W u a n l0 v l) (b : Below W.heap.size W W') : Handed W' u a n l0 v l :=
  ⟨blk_on h.bx b, h.row.on b, fun p hp => (h.dat p hp).on b, h.pre⟩
theorem pkCells_pre {l0 l : List Pk} (h : l0 <+: l) {j : Nat} {u : Value} (hj : (pkCells l0)[j]? = some u) : (pkCells l)[j]? = some u := by
  obtain ⟨r, rfl⟩ := h
  rw [pkCells_append, List.getElem?_append_left (List.getElem?_eq_some_iff.1 hj).1]
  exact hj
/-- As it is handed out. -/
theorem Handed.fresh {W W' : World} {B b u : Nat} {a : Option Addr} {c room last lost : Nat} {l : List Pk} (hb : BagAt W B b (.slice a l.length c) room last lost l) (k : Below W.heap.size W W') (hu : W'.heap[u]? = some (.cells #[.slice a l.length l.length] 48 (0, 0))) : Handed W' u a l.length l (.slice a l.length c) l := by
  have h9 := own_on hb.row k
  refine ⟨hu, ⟨rfl, Nat.le_refl _, ?_, ?_⟩, fun p hp => ((hb.dat p hp).low (Nat.zero_le _)).on k, fun g o e e2 => ?_⟩
  · have h1 := hb.le; have h2 := hb.r2; unfold maxLen; omega
  · rcases h9.2 with ⟨e, hx⟩ | ⟨g, cap, cur, e, hbg, hg, hnc, hcm, hcs, htake⟩
    · injection e with e1 e2 e3
      exact .inl ⟨e1, e2⟩
    · injection e with e1 e2 e3
      refine .inr ⟨g, 0, cur, e1, hg, fun j u hj => ?_⟩
      have hlt := (List.getElem?_eq_some_iff.1 hj).1
      rw [← htake, List.getElem?_take_of_lt (by rw [pkCells_length] at hlt; exact hlt)] at hj
      simpa using hj
  · refine ⟨?_, List.prefix_refl _⟩
    rcases h9.2 with ⟨e3, hx⟩ | ⟨g2, cap, cur, e3, hbg, hg, hnc, hcm, hcs, htake⟩
    · injection e3 with e3; rw [e] at e3; cases e3
    · injection e3 with e3; rw [e] at e3; injection e3 with e3; injection e3
/-- Whatever the bag does, an iterator's frames stay. -/
theorem Handed.turn {W W' : World} {B b u : Nat} {a : Option Addr} {n : Nat} {l0 l l' : List Pk} {v v' : Value} {room last lost last' lost' : Nat} (h : Handed W u a n l0 v l) (hb : BagAt W B b v room last lost l) (hb' : BagAt W' B b v' room last' lost' l') (k : Keeps (BgS b v) W W')
    (hs : (v'.ownBlock = v.ownBlock ∧ l <+: l') ∨ ((∀ g, v'.ownBlock = some g → W.heap.size ≤ g) ∧ Keeps (fun x => x = b) W W')) : Handed W' u a n l0 v' l' := by
  obtain ⟨r1, r2, r3, r4⟩ := h.row
  have nb : ∀ (g : Nat) (cur : Array Value) (T : TypeId), W.heap[g]? = some (.cells cur T (0, 0)) → T ≠ 60 → g ≠ b := fun g cur T hg hT e => by
    have h1 := hb.bx
    rw [← e, hg] at h1
    injection h1 with h1
    injection h1 with _ h1
    exact hT h1
  refine ⟨blk_keep h.bx k (fun hs => ?_), ⟨r1, r2, r3, ?_⟩, fun p hp => (h.dat p hp).keep k (hb.dat_not (h.dat p hp)), fun g o e e2 => ?_⟩
  · rcases hs with hs | hs
    · exact nb _ _ _ h.bx (by decide) hs
    · exact own_typed hb.row h.bx (by decide) hs
  · rcases r4 with r4 | ⟨g, o, cur, e, hg, hc⟩
    · exact .inl r4
    · have hgb := nb _ _ _ hg (by decide)
      rcases hs with ⟨hv, hl⟩ | ⟨hv, kb⟩
      · by_cases hgv : v.ownBlock = some g
        · obtain ⟨rfl, hp⟩ := h.pre g o e hgv
          rw [← hv] at hgv
          rcases hb'.row.2 with ⟨e3, hx⟩ | ⟨g2, cap, cur2, e3, hbg, hg2, hnc, hcm, hcs, htake⟩
          · rw [e3] at hgv; cases hgv
          · rw [e3] at hgv
            have e4 : g2 = g := by simpa [Value.ownBlock] using hgv
            subst e4
            refine .inr ⟨g2, 0, cur2, e, hg2, fun j u hj => ?_⟩
            have hj2 := pkCells_pre (hp.trans hl) hj
            have hlt := (List.getElem?_eq_some_iff.1 hj2).1
            rw [← htake, List.getElem?_take_of_lt (by rw [pkCells_length] at hlt; exact hlt)] at hj2
            simpa using hj2
        · exact .inr ⟨g, o, cur, e, blk_keep hg k (fun hs => hs.elim hgb hgv), hc⟩
      · exact .inr ⟨g, o, cur, e, blk_keep hg kb hgb, hc⟩
  · rcases hs with ⟨hv, hl⟩ | ⟨hv, kb⟩
    · rw [hv] at e2
      exact ⟨(h.pre g o e e2).1, (h.pre g o e e2).2.trans hl⟩
    · have h1 := hv g e2
      rcases r4 with ⟨r4, -⟩ | ⟨g2, o2, cur, e3, hg, hc⟩
      · rw [r4] at e; cases e
      · rw [e] at e3
        injection e3 with e3
        injection e3 with e3
        subst e3
        have h2 := lt_of_blk hg
        omega
end Go.Proofs.Yteaaamhojiognaa

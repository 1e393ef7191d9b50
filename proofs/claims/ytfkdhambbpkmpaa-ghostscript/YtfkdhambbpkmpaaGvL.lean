/-
  Two pairs of ghosts: any call of one of them, and what all hold.
-/
import Derived.Test.YtfkdhambbpkmpaaGvB
namespace Go.Proofs.Ytfkdhambbpkmpaa
open Go.RowKit
set_option linter.unusedVariables false

theorem step_any {w : World} {B p m q N : Nat} {va : Value} {L : List En} {H HR : Nat → Hd} {W0 : World} (h : Gs w B p m q N va L H HR) (o : Gop) (hW : o.In W0) (hw0 : Below W0.heap.size W0 w) (hWB : W0.heap.size ≤ B) (hn : o.l.n ≤ 1073741824) (hN : N < maxLen) (hL : L.length ≤ 1073741824) :
    Calls Try.prog 8 #[.pointer (some ⟨p, 0, none⟩), .pointer (some ⟨q, 0, none⟩), .agg #[.int .i64 o.kind, .int .i64 o.node, .string o.e.k, .int .i64 o.e.c, .int .i64 o.e.n, .string o.e.v, .bool o.e.d, .slice o.l.a o.l.n o.l.c, .bool o.snd]] w fun e w' => e = .returned (.bool true) ∧ StepOut w w' B p m q N va L H HR := by
  by_cases e0 : o.kind = 0
  · rw [e0]; exact step_wrote h o (hW.keep hw0) hN hL
  by_cases e1 : o.kind = 1
  · rw [e1]; exact step_written h o (hW.keep hw0)
  by_cases e2 : o.kind = 2
  · rw [e2]; exact step_sees h o hW hw0 hWB hn
  by_cases e3 : o.kind = 3
  · rw [e3]; exact step_held h o (hW.keep hw0)
  exact step_other h o (hW.keep hw0) o.kind e0 e1 e2 e3
/-- Two pairs that lie apart, behind some calls. -/
def TwoG (W0 w : World) (p1 m1 q1 p2 m2 q2 j : Nat) : Prop := ∃ N1 va1 L1 H1 HR1 N2 va2 L2 H2 HR2, Gs w W0.heap.size p1 m1 q1 N1 va1 L1 H1 HR1 ∧ Gs w W0.heap.size p2 m2 q2 N2 va2 L2 H2 HR2 ∧ (∀ k, foot p1 m1 q1 va1 H1 HR1 k → ¬ foot p2 m2 q2 va2 H2 HR2 k) ∧ (N1 ≤ j ∧ L1.length ≤ j ∧ N2 ≤ j ∧ L2.length ≤ j) ∧ Below W0.heap.size W0 w
theorem TwoG.swap {W0 w : World} {p1 m1 q1 p2 m2 q2 j : Nat} (h : TwoG W0 w p1 m1 q1 p2 m2 q2 j) : TwoG W0 w p2 m2 q2 p1 m1 q1 j := by
  obtain ⟨N1, va1, L1, H1, HR1, N2, va2, L2, H2, HR2, h1, h2, h3, ⟨i1, i2, i3, i4⟩, h4⟩ := h
  exact ⟨N2, va2, L2, H2, HR2, N1, va1, L1, H1, HR1, h2, h1, fun k hk hk2 => h3 k hk2 hk, ⟨i3, i4, i1, i2⟩, h4⟩
theorem TwoG.on {W0 w w' : World} {p1 m1 q1 p2 m2 q2 j : Nat} (h : TwoG W0 w p1 m1 q1 p2 m2 q2 j) (b : Below w.heap.size w w') : TwoG W0 w' p1 m1 q1 p2 m2 q2 j := by
  obtain ⟨N1, va1, L1, H1, HR1, N2, va2, L2, H2, HR2, h1, h2, h3, h5, h4⟩ := h
  exact ⟨N1, va1, L1, H1, HR1, N2, va2, L2, H2, HR2, h1.on b, h2.on b, h3, h5, bthen h4 b⟩
theorem TwoG.bel {W0 w : World} {p1 m1 q1 p2 m2 q2 j : Nat} (h : TwoG W0 w p1 m1 q1 p2 m2 q2 j) : Below W0.heap.size W0 w := by
  obtain ⟨N1, va1, L1, H1, HR1, N2, va2, L2, H2, HR2, h1, h2, h3, h5, h4⟩ := h
  exact h4
theorem two_fst {W0 w : World} {p1 m1 q1 p2 m2 q2 j : Nat} (h : TwoG W0 w p1 m1 q1 p2 m2 q2 j) (hj : j ≤ 1073741824) (o : Gop) (hW : o.In W0) (hn : o.l.n ≤ 1073741824) :
    Calls Try.prog 8 #[.pointer (some ⟨p1, 0, none⟩), .pointer (some ⟨q1, 0, none⟩), (.agg #[.int .i64 o.kind, .int .i64 o.node, .string o.e.k, .int .i64 o.e.c, .int .i64 o.e.n, .string o.e.v, .bool o.e.d, .slice o.l.a o.l.n o.l.c, .bool o.snd])] w fun e w' => e = .returned (.bool true) ∧ TwoG W0 w' p1 m1 q1 p2 m2 q2 (j + 1) := by
  obtain ⟨N1, va1, L1, H1, HR1, N2, va2, L2, H2, HR2, h1, h2, h3, ⟨i1, i2, i3, i4⟩, h4⟩ := h
  refine (step_any h1 o hW h4 (Nat.le_refl _) hn (by unfold maxLen; omega) (by omega)).mono ?_
  rintro e w' ⟨rfl, N', va', L', H', HR', g1, n1, n2, kk, ft⟩
  have hB : ∀ j, j < W0.heap.size → turnsG p1 m1 q1 va1 j → False := fun j hj ht => by
    rcases ht with rfl | rfl | rfl | ht
    · have := h1.g.pB; omega
    · have := h1.g.mB; omega
    · have := h1.r.qB; omega
    · have := (row_blkM h1.r.all ht).1; omega
  refine ⟨rfl, N', va', L', H', HR', N2, va2, L2, H2, HR2, g1, h2.keep kk (fun j hj ht => h3 j (turnsG_foot ht) hj), fun k hk hk2 => ?_, ⟨by omega, by omega, by omega, by omega⟩, h4.trans (kk.below h4.size hB)⟩
  rcases ft k hk with h9 | h9
  · exact h3 k h9 hk2
  · have := h2.lt hk2; omega
theorem two_snd {W0 w : World} {p1 m1 q1 p2 m2 q2 j : Nat} (h : TwoG W0 w p1 m1 q1 p2 m2 q2 j) (hj : j ≤ 1073741824) (o : Gop) (hW : o.In W0) (hn : o.l.n ≤ 1073741824) :
    Calls Try.prog 8 #[.pointer (some ⟨p2, 0, none⟩), .pointer (some ⟨q2, 0, none⟩), (.agg #[.int .i64 o.kind, .int .i64 o.node, .string o.e.k, .int .i64 o.e.c, .int .i64 o.e.n, .string o.e.v, .bool o.e.d, .slice o.l.a o.l.n o.l.c, .bool o.snd])] w fun e w' => e = .returned (.bool true) ∧ TwoG W0 w' p1 m1 q1 p2 m2 q2 (j + 1) :=
  (two_fst h.swap hj o hW hn).mono (fun e w' hh => ⟨hh.1, hh.2.swap⟩)
/-- What both ghosts of a pair hold at a node is the same. -/
def HeldP (w : World) (p q : Nat) : Prop := ∃ B m N va L H HR, Gs w B p m q N va L H HR
theorem HeldP.on {w w' : World} {p q : Nat} (h : HeldP w p q) (b : Below w.heap.size w w') : HeldP w' p q := by
  obtain ⟨B, m, N, va, L, H, HR, h⟩ := h
  exact ⟨B, m, N, va, L, H, HR, h.on b⟩
theorem TwoG.fst {W0 w : World} {p1 m1 q1 p2 m2 q2 j : Nat} (h : TwoG W0 w p1 m1 q1 p2 m2 q2 j) : HeldP w p1 q1 := by
  obtain ⟨N1, va1, L1, H1, HR1, N2, va2, L2, H2, HR2, h1, h2, h3, h5, h4⟩ := h
  exact ⟨_, _, _, _, _, _, _, h1⟩
theorem TwoG.snd {W0 w : World} {p1 m1 q1 p2 m2 q2 j : Nat} (h : TwoG W0 w p1 m1 q1 p2 m2 q2 j) : HeldP w p2 q2 := h.swap.fst
/-- Of a node: a list of the code's. -/
def GvsK (w : World) (l : List En) (e : Ending) (w' : World) : Prop := ∃ a n c, e = .returned (.slice a n c) ∧ w'.ownsRow w.heap.size 31 5 (.slice a n c) n (entCells l) ∧ Below w.heap.size w w'
theorem HeldP.both {w : World} {p q : Nat} (h : HeldP w p q) (node : Int) : ∃ l, KeysOk l ∧ (∀ W, Below w.heap.size w W → Calls Try.prog 10 #[.pointer (some ⟨p, 0, none⟩), .int .i64 node] W fun e w' => GvsK W l e w') ∧ (∀ W, Below w.heap.size w W → Calls Try.prog 11 #[.pointer (some ⟨q, 0, none⟩), .int .i64 node] W fun e w' => GvsK W l e w') := by
  obtain ⟨B, m, N, va, L, H, HR, h⟩ := h
  refine ⟨_, mapKeys (h.g.one node).2.1, fun W b => (gheld_any (h.on b).g node).mono ?_, fun W b => (rhheld_any (h.on b).r node).mono ?_⟩
  · rintro e w' ⟨a, c, rfl, o, bb⟩
    exact ⟨a, _, c, rfl, o, bb⟩
  · rintro e w' ⟨a, c, rfl, o, bb⟩
    exact ⟨a, _, c, rfl, by rw [h.heldSame]; exact o, bb⟩
theorem Gh.low {w : World} {B B' p m N : Nat} {L : List En} {H : Nat → Hd} (h : Gh w B p m N L H) (hB : B' ≤ B) : Gh w B' p m N L H :=
  ⟨h.bx, Nat.le_trans hB h.pB, Nat.le_trans hB h.mB, h.mp, h.chk, fun i hi => own_low (h.held i hi) hB, h.maps, h.sz⟩
theorem Rh.low {w : World} {B B' q : Nat} {va : Value} {L : List En} {H : Nat → Hd} (h : Rh w B q va L H) (hB : B' ≤ B) : Rh w B' q va L H :=
  ⟨h.bx, Nat.le_trans hB h.qB, own_low h.all hB, h.chk, fun i hi => own_low (h.held i hi) hB, h.maps, h.sz, h.ap⟩
theorem foot0 {p m q k : Nat} (h : foot p m q (.slice none 0 0) (fun _ => hd0) (fun _ => hd0) k) : k = p ∨ k = m ∨ k = q := by
  rcases h with h | h | h | h | ⟨i, -, h | h⟩
  · exact .inl h
  · exact .inr (.inl h)
  · exact .inr (.inr h)
  · cases h
  · cases h
  · cases h
theorem two_new {W0 w1 w2 w3 w4 : World} {p1 m1 q1 p2 m2 q2 : Nat} (b0 : Below W0.heap.size W0 w1) {wa : World} (hwa : W0.heap.size ≤ wa.heap.size) (g1 : Gh w1 wa.heap.size p1 m1 0 [] (fun _ => hd0)) (g2 : Gh w2 w1.heap.size p2 m2 0 [] (fun _ => hd0)) (b2 : Below w1.heap.size w1 w2) (r1 : Rh w3 w2.heap.size q1 (.slice none 0 0) [] (fun _ => hd0)) (b3 : Below w2.heap.size w2 w3) (r2 : Rh w4 w3.heap.size q2 (.slice none 0 0) [] (fun _ => hd0)) (b4 : Below w3.heap.size w3 w4) : TwoG W0 w4 p1 m1 q1 p2 m2 q2 0 := by
  have hm1 : m1 < w1.heap.size := by
    obtain ⟨D, ⟨es, clock, h4, -⟩, -⟩ := g1.mp
    exact lt_of_blk h4
  have hp1 := lt_of_blk g1.bx
  have hm2 : m2 < w2.heap.size := by
    obtain ⟨D, ⟨es, clock, h4, -⟩, -⟩ := g2.mp
    exact lt_of_blk h4
  have hp2 := lt_of_blk g2.bx
  have hq1 := lt_of_blk r1.bx
  have l2 := g2.pB
  have l3 := g2.mB
  have l4 := r1.qB
  have l5 := r2.qB
  have s1 := b0.size
  have s2 := b2.size
  have s3 := b3.size
  refine ⟨0, .slice none 0 0, [], fun _ => hd0, fun _ => hd0, 0, .slice none 0 0, [], fun _ => hd0, fun _ => hd0, ⟨((g1.low hwa).on (bthen (bthen b2 b3) b4)), (r1.low (by omega)).on b4, fun _ _ => rfl, fun i hi j hj h9 => (by cases h9)⟩, ⟨(g2.low s1).on (bthen b3 b4), r2.low (by omega), fun _ _ => rfl, fun i hi j hj h9 => (by cases h9)⟩, fun k hk hk2 => ?_, ⟨Nat.le_refl _, Nat.le_refl _, Nat.le_refl _, Nat.le_refl _⟩, bthen (bthen (bthen b0 b2) b3) b4⟩
  have h1 := foot0 hk
  have h2 := foot0 hk2
  omega
end Go.Proofs.Ytfkdhambbpkmpaa

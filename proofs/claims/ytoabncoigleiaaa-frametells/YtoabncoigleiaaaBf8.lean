/-
  Clone of a frame whose parts have no entries.
  checked: a frame that may be is told in new memory.
  First, the code's.
  First, the document's own.
  The law FrameFirst, walked: it returns true at any node, name and tally.
  Parts that may be: plain.
  What follows of a frame that may be: its ranges rise, and the keys of all its entries.
  Answer to a frame that may be, with parts that have no entries.
  Clone of the document's, of any frame: parts and entries in memory of its own.
  Clone of a list of entries that is not nil: a row of its own with the same entries.
  One part of a frame of its own turned: the cell of its entries stored.
-/
import Derived.Test.YtoabncoigleiaaaBf4
import Derived.Test.YtoabncoigleiaaaBf1
import Derived.Laws.Tables
import Derived.Deep.DeepCutAuto
import Derived.Test.YtoabncoigleiaaaBf6
import Derived.Test.YtoabncoigleiaaaBf7
namespace Go.Proofs.Ytoabncoigleiaaa
open Go.RowKit
set_option linter.unusedVariables false
theorem own_sl {w : World} {B : Nat} {e : TypeId} {s : Nat} {v : Value} {n : Nat} {xs : List Value} (h : w.ownsRow B e s v n xs) (hn : 0 < n) : ∃ g c, v = .slice (some ⟨g, 0, none⟩) n c ∧ B ≤ g := by
  rcases h.2 with ⟨rfl, rfl⟩ | ⟨g, cap, cur, rfl, hb, _⟩
  · omega
  · exact ⟨g, cap, rfl, hb⟩
theorem set_far1 {W : World} {j k : Nat} {ob : Obj} (h : W.heap[j]? = some ob) (hne : j ≠ k) (i : Nat) (v : Value) : (W.setCell ⟨k, i, none⟩ v).heap[j]? = some ob :=
  (Keeps.setCell (Keeps.refl (fun q => q = k) W) (fun _ => rfl) v).block j (Array.getElem?_eq_some_iff.1 h).1 hne |>.trans h
theorem own_apart {w : World} {B g k cap n : Nat} {xs : List Value} (h : w.ownsRow B 51 8 (.slice (some ⟨g, 0, none⟩) n cap) n xs) (a : Nat) (ha : a ≠ g) (u : Value) : (w.setCell ⟨a, k, none⟩ u).ownsRow B 51 8 (.slice (some ⟨g, 0, none⟩) n cap) n xs :=
  ownsRow_keep h ((Keeps.refl (fun k => k = a) w).setCell (fun _ => rfl) u) (fun j hj x => ha (by simp [Value.ownBlock] at hj; omega))
end Go.Proofs.Ytoabncoigleiaaa
namespace Go.Proofs.Ytoabncoigleiaaa
open Go.RowKit
set_option linter.unusedVariables false
end Go.Proofs.Ytoabncoigleiaaa
namespace Go.Proofs.Ytoabncoigleiaaa
open Go.RowKit
set_option linter.unusedVariables false
/-- The one part of a first frame. -/
def P1 (c x z : Int) : Nat → Pm := fun _ => ⟨1, ⟨#[]⟩, ⟨#[]⟩, true, c, x, z, none, 0, 0, fun _ => ⟨⟨#[]⟩, 0, 0, ⟨#[]⟩, false⟩⟩
end Go.Proofs.Ytoabncoigleiaaa
namespace Go.Proofs.Ytoabncoigleiaaa
open Go.RowKit
set_option linter.unusedVariables false
end Go.Proofs.Ytoabncoigleiaaa
namespace Go.Proofs.Ytoabncoigleiaaa
open Go.RowKit
set_option linter.unusedVariables false
end Go.Proofs.Ytoabncoigleiaaa
namespace Go.Proofs.Ytoabncoigleiaaa
open Go.RowKit
set_option linter.unusedVariables false
end Go.Proofs.Ytoabncoigleiaaa
namespace Go.Proofs.Ytoabncoigleiaaa
open Go.RowKit
set_option linter.unusedVariables false
/-- A block that is no row stays under an append to a row. -/
theorem blk_grown {w w' : World} {k r : Nat} {o : Obj} (h : w.heap[k]? = some o) (hg : w.grownBy w' (some r)) (hne : k ≠ r) : w'.heap[k]? = some o := by
  obtain ⟨_, _, _, _, hb⟩ := hg
  rw [hb k (Array.getElem?_eq_some_iff.1 h).1 (fun e => hne (by cases e; rfl))]
  exact h
theorem own_grown {w w' : World} {B e s g n c r : Nat} {xs : List Value} (h : w.ownsRow B e s (.slice (some ⟨g, 0, none⟩) n c) n xs) (hg : w.grownBy w' (some r)) (hne : g ≠ r) : w'.ownsRow B e s (.slice (some ⟨g, 0, none⟩) n c) n xs := by
  refine ⟨h.1, ?_⟩
  rcases h.2 with ⟨h1, _⟩ | ⟨g', cap, cur, h1, h2, h3, h4⟩
  · cases h1
  · injection h1 with e1 e2 e3
    injection e1 with e1
    injection e1 with e1
    subst e1
    exact .inr ⟨g, cap, cur, by rw [e3], h2, blk_grown h3 hg hne, h4⟩
theorem own_type {w : World} {B B' e e' s s' g n n' c c' : Nat} {xs ys : List Value} (h : w.ownsRow B e s (.slice (some ⟨g, 0, none⟩) n c) n xs) (h' : w.ownsRow B' e' s' (.slice (some ⟨g, 0, none⟩) n' c') n' ys) : e = e' := by
  rcases h.2 with ⟨h1, _⟩ | ⟨g1, cap, cur, h1, h2, h3, h4⟩
  · cases h1
  · rcases h'.2 with ⟨k1, _⟩ | ⟨g2, cap2, cur2, k1, k2, k3, k4⟩
    · cases k1
    · injection h1 with e1 e2 e3
      injection e1 with e1
      injection e1 with e1
      injection k1 with d1 d2 d3
      injection d1 with d1
      injection d1 with d1
      subst e1
      subst d1
      rw [h3] at k3
      injection k3 with k3
      injection k3 with _ k3 _
end Go.Proofs.Ytoabncoigleiaaa
namespace Go.Proofs.Ytoabncoigleiaaa
open Go.RowKit
set_option linter.unusedVariables false
end Go.Proofs.Ytoabncoigleiaaa
namespace Go.Proofs.Ytoabncoigleiaaa
open Go.RowKit
set_option linter.unusedVariables false
def firstEF (T : Nat → En) (n : Nat) : List En := (List.range n).map T
/-- Parts and their entries in rows of their own, apart from one another. -/
structure OwnF (w : World) (B g n cp : Nat) (P : Nat → Pm) : Prop where
  row : w.ownsRow B 51 8 (.slice (some ⟨g, 0, none⟩) n cp) n (ptCells (firstP P n))
  ent : ∀ i, i < n → ∃ ge, (P i).ea = some ⟨ge, 0, none⟩ ∧ w.ownsRow B 55 5 (.slice (some ⟨ge, 0, none⟩) (P i).el (P i).ec) (P i).el (entCells (firstEF (P i).T (P i).el))
  apart : ∀ i j, i < n → j < n → i ≠ j → (P i).ea ≠ (P j).ea
  keys : ∀ i, i < n → ∀ k, k < (P i).el → ((P i).T k).k.size ≤ 140737488351232
theorem OwnF.on {w w' : World} {B g n cp : Nat} {P : Nat → Pm} (h : OwnF w B g n cp P) (b : Below w.heap.size w w') : OwnF w' B g n cp P :=
  ⟨own_on h.row b, fun i hi => by obtain ⟨ge, h1, h2⟩ := h.ent i hi; exact ⟨ge, h1, own_on h2 b⟩, h.apart, h.keys⟩
theorem OwnF.grown {w w' : World} {B g n cp r : Nat} {P : Nat → Pm} (h : OwnF w B g n cp P) (hg : w.grownBy w' (some r)) (h1 : g ≠ r) (h2 : ∀ i, i < n → ∀ ge, (P i).ea = some ⟨ge, 0, none⟩ → ge ≠ r) : OwnF w' B g n cp P :=
  ⟨own_grown h.row hg h1, fun i hi => by obtain ⟨ge, k1, k2⟩ := h.ent i hi; exact ⟨ge, k1, own_grown k2 hg (h2 i hi ge k1)⟩, h.apart, h.keys⟩
theorem firstEF_get (T : Nat → En) {n i : Nat} (h : i < n) : nthE (firstEF T n) i = T i := by
  unfold nthE firstEF
  rw [List.getD, List.getElem?_map, List.getElem?_range h]; rfl
theorem ents_own {w : World} {B g n c : Nat} {T : Nat → En} (h : w.ownsRow B 55 5 (.slice (some ⟨g, 0, none⟩) n c) n (entCells (firstEF T n))) (hk : ∀ k, k < n → (T k).k.size ≤ 140737488351232) : EntsIn w (some ⟨g, 0, none⟩) n c T := by
  refine ⟨(row_max h).1, (row_max h).2, .inr ⟨g, 0, rfl, (h.lt g rfl).2, fun i hi => ⟨?_, hk i hi⟩⟩⟩
  have := row_cells h (i := i) (by unfold firstEF; simp; exact hi)
  rw [firstEF_get T hi] at this
  simpa using this
theorem ents_keys {w : World} {a : Option Addr} {n c : Nat} {T : Nat → En} (h : EntsIn w a n c T) : ∀ k, k < n → (T k).k.size ≤ 140737488351232 := by
  intro k hk
  rcases h.2.2 with h0 | ⟨b, off, _, _, hc⟩
  · omega
  · exact (hc k hk).2
/-- A list of entries appended to an empty row, as one operation. -/
theorem op_append_entsF {w : World} {o : Oper} {act : Act} {K : Act → World → Prop} {Q : Exit → Act → World → Prop} (s x : Operand)
    (ho : o.op = .call { callee := .builtin .append, args := #[s, x], argTypes := #[49, 49] })
    (B g0 c0 : Nat) (hs : act.eval s = .slice (some ⟨g0, 0, none⟩) 0 c0) (hA : w.ownsRow B 55 5 (.slice (some ⟨g0, 0, none⟩) 0 c0) 0 (entCells [])) (a : Option Addr) (len cap : Nat) (T : Nat → En) (hx : act.eval x = .slice a len cap) (hL : EntsIn w a len cap T)
    (hform : (a = none ∧ len = 0 ∧ cap = 0) ∨ ∃ y, a = some y) (hlen : len * 56 ≤ 140737488351232) (hB : B ≤ w.heap.size)
    (h : ∀ g c w', w'.ownsRow B 55 5 (.slice (some ⟨g, 0, none⟩) len c) len (entCells (firstEF T len)) → w.grownBy w' (some g0) → K (act.put o.dst (.slice (some ⟨g, 0, none⟩) len c)) w') : o.wp Try.prog act w K Q := by
  obtain ⟨i0, hi, hz0, hz1, hz2⟩ := info_parts infoEnt
  rcases hform with ⟨rfl, rfl, rfl⟩ | ⟨y, rfl⟩
  · have hrun := run_append_owned_none (P := Try.prog) (w := w) B 49 o.type 55 i0 5 Try.underlying49 hi _ _ _ hA
    unfold Oper.wp
    simp [execOp, ho, resolve, invoke, builtin, hs, hx, hrun, Result.andThen]
    exact h g0 c0 w hA (World.grownBy.refl _ _)
  · refine wp_append_own w s x _ ho B 55 i0 _ 5 56 Try.underlying49 hi hz0 hz1 hz2 rfl (by decide) _ _ _ hs hA y len cap (entCells ((List.range len).map T)) hx (by rw [entCells_length]; simp) (ents_cells hL) (entCells_one _) (by unfold maxLen; omega) (by omega) hB ?_
    intro v' w' ho' hg' hfr
    simp only [Nat.zero_add, entCells, List.nil_append] at ho'
    rcases ho'.2 with ⟨h1, h2⟩ | ⟨g, cap', cur, rfl, _⟩
    · exact absurd (hfr.1 h1).1 (by simp)
    · exact h g cap' w' ho' hg'
theorem own_apartF {w : World} {B e s g k cap n a : Nat} {xs : List Value} (h : w.ownsRow B e s (.slice (some ⟨g, 0, none⟩) n cap) n xs) (ha : a ≠ g) (u : Value) : (w.setCell ⟨a, k, none⟩ u).ownsRow B e s (.slice (some ⟨g, 0, none⟩) n cap) n xs :=
  ownsRow_keep h ((Keeps.refl (fun k => k = a) w).setCell (fun _ => rfl) u) (fun j hj x => ha (by simp [Value.ownBlock] at hj; omega))
theorem own_blk {w : World} {B e s g n c k t : Nat} {xs : List Value} {cs : Array Value} (h : w.ownsRow B e s (.slice (some ⟨g, 0, none⟩) n c) n xs) (hk : w.heap[k]? = some (.cells cs t (0, 0))) (ht : e ≠ t) : g ≠ k := by
  intro e1
  subst e1
  rcases h.2 with ⟨h1, _⟩ | ⟨g1, cap, cur, h1, h2, h3, h4⟩
  · cases h1
  · injection h1 with e1 e2 e3
    injection e1 with e1
    injection e1 with e1
    subst e1
    rw [hk] at h3
    injection h3 with h3
    injection h3 with _ h3 _
    exact ht h3.symm
theorem OwnF.setc {w : World} {B g n cp a k : Nat} {P : Nat → Pm} (h : OwnF w B g n cp P) (h1 : a ≠ g) (h2 : ∀ i, i < n → ∀ ge, (P i).ea = some ⟨ge, 0, none⟩ → a ≠ ge) (u : Value) : OwnF (w.setCell ⟨a, k, none⟩ u) B g n cp P :=
  ⟨own_apartF h.row h1 u, fun i hi => by obtain ⟨ge, k1, k2⟩ := h.ent i hi; exact ⟨ge, k1, own_apartF k2 (h2 i hi ge k1) u⟩, h.apart, h.keys⟩
theorem OwnF.low {w : World} {B C g n cp : Nat} {P : Nat → Pm} (h : OwnF w B g n cp P) (hb : C ≤ B) : OwnF w C g n cp P :=
  ⟨own_low h.row hb, fun i hi => by obtain ⟨ge, k1, k2⟩ := h.ent i hi; exact ⟨ge, k1, own_low k2 hb⟩, h.apart, h.keys⟩
theorem OwnF.lts {w : World} {B g n cp : Nat} {P : Nat → Pm} (h : OwnF w B g n cp P) : (B ≤ g ∧ g < w.heap.size) ∧ ∀ i, i < n → ∀ ge, (P i).ea = some ⟨ge, 0, none⟩ → B ≤ ge ∧ ge < w.heap.size := by
  refine ⟨h.row.lt g rfl, fun i hi ge e => ?_⟩
  obtain ⟨g1, k1, k2⟩ := h.ent i hi
  rw [k1] at e
  injection e with e
  injection e with e _ _
  subst e
  exact k2.lt g1 rfl
theorem firstP_snoc (P : Nat → Pm) (n : Nat) : firstP P (n + 1) = firstP P n ++ [P n] := by unfold firstP; rw [List.range_succ, List.map_append]; rfl
theorem firstP_ext {P Q : Nat → Pm} {n : Nat} (h : ∀ i, i < n → P i = Q i) : firstP P n = firstP Q n := by
  unfold firstP
  exact List.map_congr_left (fun i hi => h i (List.mem_range.1 hi))
/-- One part more. -/
def addP (P : Nat → Pm) (n : Nat) (p : Pm) : Nat → Pm := fun i => if i < n then P i else p
theorem addP_lt {P : Nat → Pm} {n : Nat} {p : Pm} {i : Nat} (h : i < n) : addP P n p i = P i := if_pos h
theorem addP_at {P : Nat → Pm} {n : Nat} {p : Pm} : addP P n p n = p := if_neg (Nat.lt_irrefl _)
set_option maxHeartbeats 6400000 in
set_option maxRecDepth 100000 in
theorem cloneR_any (fr tz o l n tn : Int) (a : Option Addr) (len cap : Nat) (P : Nat → Pm) (w : World) (h : PartsIn w a len cap P) (hz : len * 96 ≤ 140737488351232) (hOk : ∀ i, i < len → ((P i).ea = none ∧ (P i).el = 0 ∧ (P i).ec = 0 ∨ ∃ y, (P i).ea = some y) ∧ (P i).el * 56 ≤ 140737488351232) :
    Calls Try.prog 31 #[.agg #[.int .i64 fr, .int .i64 tz, .int .i64 o, .int .i64 l, .int .i64 n, .int .i64 tn, .slice a len cap]] w fun e w' => ∃ g cp P', e = .returned (.agg #[.int .i64 fr, .int .i64 tz, .int .i64 o, .int .i64 l, .int .i64 n, .int .i64 tn, .slice (some ⟨g, 0, none⟩) len cp]) ∧ OwnF w' w.heap.size g len cp P' ∧ (∀ i, i < len → SamePm (P i) (P' i)) ∧ Below w.heap.size w w' := by
  have HE := aside h
  have HOK := aside hOk
  have hmx : (len : Int) ≤ 9223372036854775807 := by omega
  have HZ := aside hz
  clear h hz hOk
  go_enter Try.func31, Try.ntmps31
  go_upto_region 1 with fail
  have BX := aside (bthen (bnew w (.cells #[.int .i64 fr, .int .i64 tz, .int .i64 o, .int .i64 l, .int .i64 n, .int .i64 tn, .slice a len cap] 26)) (bnew _ (.cells #[.int .i64 0, .int .i64 0, .int .i64 0, .int .i64 0, .int .i64 0, .int .i64 0, .slice none 0 0] 26)))
  have KF := aside (blk_on (heap_alloc_new w (.cells #[.int .i64 fr, .int .i64 tz, .int .i64 o, .int .i64 l, .int .i64 n, .int .i64 tn, .slice a len cap] 26)) (bnew _ (.cells #[.int .i64 0, .int .i64 0, .int .i64 0, .int .i64 0, .int .i64 0, .int .i64 0, .slice none 0 0] 26)))
  have KZ := aside (heap_alloc_new (w.alloc (.cells #[.int .i64 fr, .int .i64 tz, .int .i64 o, .int .i64 l, .int .i64 n, .int .i64 tn, .slice a len cap] 26)) (.cells #[.int .i64 0, .int .i64 0, .int .i64 0, .int .i64 0, .int .i64 0, .int .i64 0, .slice none 0 0] 26))
  have HX0 := aside (show ((w.alloc (.cells #[.int .i64 fr, .int .i64 tz, .int .i64 o, .int .i64 l, .int .i64 n, .int .i64 tn, .slice a len cap] 26)).alloc (.cells #[.int .i64 0, .int .i64 0, .int .i64 0, .int .i64 0, .int .i64 0, .int .i64 0, .slice none 0 0] 26)).heap.size = w.heap.size + 2 from by rw [World.size_alloc, World.size_alloc])
  rw [World.size_alloc] at KZ
  generalize (w.alloc (.cells #[.int .i64 fr, .int .i64 tz, .int .i64 o, .int .i64 l, .int .i64 n, .int .i64 tn, .slice a len cap] 26)).alloc (.cells #[.int .i64 0, .int .i64 0, .int .i64 0, .int .i64 0, .int .i64 0, .int .i64 0, .slice none 0 0] 26) = X0 at BX KF KZ HX0 ⊢
  have OP0 := aside (ownP_empty X0 X0.heap.size (Nat.le_refl _))
  have BE := aside (bnew X0 (.cells #[] 51))
  go_wp2
  obtain ⟨g0, hg0⟩ : ∃ g0, X0.heap.size = g0 := ⟨_, rfl⟩
  generalize X0.alloc (.cells #[] 51) = Y0 at OP0 BE ⊢
  have OW0 := aside (show OwnF Y0 X0.heap.size X0.heap.size 0 0 (fun _ => pm0) from ⟨OP0.out, fun i hi => by omega, fun i j hi => by omega, fun i hi => by omega⟩)
  clear OP0 hg0
  go_loopw [3, 4] (fun vr i wr => ∃ (j g cp : Nat) (P' : Nat → Pm), vr = .slice (some ⟨g, 0, none⟩) j cp ∧ i = .int .i64 (j : Int) ∧ j ≤ len ∧ Hid (OwnF wr X0.heap.size g j cp P') ∧ Hid (∀ i, i < j → SamePm (P i) (P' i)) ∧ Hid (Below X0.heap.size X0 wr)) (fun vr i _ => len - (intOf i).toNat)
  case atStart => exact ⟨0, X0.heap.size, 0, fun _ => pm0, rfl, rfl, Nat.zero_le _, OW0.out, fun i hi => by omega, BE.out⟩
  case round =>
    obtain ⟨j, g, cp, P', rfl, rfl, hj, OW, HS, HB⟩ := hrel
    obtain ⟨-, -, -, -, -, -, f6⟩ := sep7 (blk_on KF.out HB.out)
    by_cases hlt : (j : Int) < (len : Int)
    · have hj0 : (0 : Int) ≤ (j : Int) := by omega
      have BW := aside (bthen BX.out HB.out)
      rcases (HE.out.keep BW.out).2.2 with h0 | ⟨b, off, rfl, hb, hc⟩
      · omega
      obtain ⟨hat, hin⟩ := hc j (by omega)
      have hok := HOK.out j (by omega)
      obtain ⟨p, hp⟩ : ∃ p, P j = p := ⟨_, rfl⟩
      have HP := aside hp
      rw [hp] at hat hin hok
      clear hp hc
      obtain ⟨kind, lo, hi, op, cnt, s0, s1, ea, el, ec, T⟩ := p
      obtain ⟨c0, c1, c2, c3, c4, c5, c6, c7⟩ := hat
      dsimp only at c0 c1 c2 c3 c4 c5 c6 c7 hok
      have HIN := aside (show EntsIn wr ea el ec T from hin)
      have HFM := aside hok.1
      have HEL := aside hok.2
      have HLT := aside OW.out.lts
      have HSX := aside HB.out.size
      clear hin hok
      go_upto_region 6 with fail
      have K1 := aside (heap_alloc_new wr (.cells #[.int .i64 kind, .string lo, .string hi, .bool op, .int .i64 cnt, .int .u64 s0, .int .u64 s1, .slice ea el ec] 51))
      have BA := aside (bnew wr (.cells #[.int .i64 kind, .string lo, .string hi, .bool op, .int .i64 cnt, .int .u64 s0, .int .u64 s1, .slice ea el ec] 51))
      obtain ⟨pb, hpb⟩ : ∃ pb, wr.heap.size = pb := ⟨_, rfl⟩
      rw [hpb] at K1 HLT HSX ⊢
      clear hpb c0 c1 c2 c3 c4 c5 c6 c7 f6
      generalize wr.alloc (.cells #[.int .i64 kind, .string lo, .string hi, .bool op, .int .i64 cnt, .int .u64 s0, .int .u64 s1, .slice ea el ec] 51) = X1 at K1 BA ⊢
      go_upto_region 7 with fail
      have K2 := aside (heap_alloc_new X1 (.cells #[] 55))
      have BC := aside (bnew X1 (.cells #[] 55))
      have HX1 := aside (show pb < X1.heap.size from (Array.getElem?_eq_some_iff.1 K1.out).1)
      obtain ⟨ge0, hge0⟩ : ∃ ge0, X1.heap.size = ge0 := ⟨_, rfl⟩
      rw [hge0] at K2 HX1 ⊢
      clear hge0
      generalize X1.alloc (.cells #[] 55) = X2 at K2 BC ⊢
      have BA2 := aside (bthen BA.out BC.out)
      have K1b := aside (blk_on K1.out BC.out)
      have OE0 := aside (show X2.ownsRow pb 55 5 (.slice (some ⟨ge0, 0, none⟩) 0 0) 0 (entCells []) from ⟨rfl, .inr ⟨ge0, 0, #[], rfl, by have := HX1.out; omega, K2.out, Nat.le_refl _, Nat.zero_le _, rfl, rfl⟩⟩)
      have HI2 := aside (HIN.out.keep BA2.out)
      have HPX := aside (show pb ≤ X2.heap.size from by have h1 := (Array.getElem?_eq_some_iff.1 K1b.out).1; omega)
      have OW2 := aside (OW.out.on BA2.out)
      have B2 := aside (HB.out.trans (BA2.out.mono HB.out.size))
      clear K1 K2 BA BC BA2 OW HB
      obtain ⟨-, -, -, -, -, -, -, p7⟩ := oct8 K1b.out
      go_wp2_with (at_builtin; refine wpList_plain rfl fun K hK => op_append_entsF _ _ rfl pb ge0 0 (by rfl) OE0.out ea el ec T (by rfl) HI2.out HFM.out HEL.out HPX.out ?_; intro ge ce w3 own3 gr3; refine hK _ _ ?_; refine Hid.out ?_)
      refine aside ?_
      have K3 := aside (blk_grown K1b.out gr3 (by have := HX1.out; omega))
      have OE3 := aside own3
      have HGE := aside (own3.lt ge rfl).1
      have HGN := aside (own_blk own3 K3.out (by decide))
      have OW3 := aside (OW2.out.grown gr3 (by have h1 := HLT.out.1.2; have h2 := HX1.out; omega) (fun i hi q e => by have h1 := (HLT.out.2 i hi q e).2; have h2 := HX1.out; omega))
      have B3 := aside (B2.out.grown gr3 B2.out.size (fun k hk => by injection hk with hk; have h1 := HX1.out; have h2 := HSX.out; omega))
      clear own3 gr3 p7 K1b OE0 HI2 HPX OW2 B2
      obtain ⟨-, -, -, -, -, -, -, p7⟩ := oct8 K3.out
      have fz7 := frozen_of_row _ _ 7 _ _ K3.out
      go_upto_region 8 with fail
      have K4 := aside (set_in 7 (.slice (some ⟨ge, 0, none⟩) el ce) K3.out)
      simp only [List.setIfInBounds_toArray, List.set_cons_zero, List.set_cons_succ] at K4
      have OW4 := aside (OW3.out.setc (a := pb) (k := 7) (by have h1 := HLT.out.1.2; omega) (fun i hi q e => by have h1 := (HLT.out.2 i hi q e).2; omega) (.slice (some ⟨ge, 0, none⟩) el ce))
      have OE4 := aside (own_apartF (a := pb) (k := 7) OE3.out (fun e => HGN.out e.symm) (.slice (some ⟨ge, 0, none⟩) el ce))
      have B4 := aside (B3.out.setCell (p := ⟨pb, 7, none⟩) HSX.out (.slice (some ⟨ge, 0, none⟩) el ce))
      clear p7 fz7 K3 OE3 OW3 B3
      generalize w3.setCell ⟨pb, 7, none⟩ (.slice (some ⟨ge, 0, none⟩) el ce) = X4 at K4 OW4 OE4 B4 ⊢
      obtain ⟨p0, p1, p2, p3, p4, p5, p6, p7⟩ := oct8 K4.out
      have HKS := aside (ents_keys HIN.out)
      have B5 := aside (bnew X4 (.cells #[.int .i64 kind, .string lo, .string hi, .bool op, .int .i64 cnt, .int .u64 s0, .int .u64 s1, .slice (some ⟨ge, 0, none⟩) el ce] 51))
      have OE5 := aside (own_on OE4.out B5.out)
      have OW5 := aside (OW4.out.on B5.out)
      have HPI := aside (show PartsIn (X4.alloc (.cells #[.int .i64 kind, .string lo, .string hi, .bool op, .int .i64 cnt, .int .u64 s0, .int .u64 s1, .slice (some ⟨ge, 0, none⟩) el ce] 51)) (some ⟨X4.heap.size, 0, none⟩) 1 1 (fun _ => ⟨kind, lo, hi, op, cnt, s0, s1, some ⟨ge, 0, none⟩, el, ce, T⟩) from
        ⟨Nat.le_refl _, by unfold maxLen; omega, .inr ⟨X4.heap.size, 0, rfl, by rw [World.size_alloc]; omega, fun i hii => ⟨by
          obtain rfl : i = 0 := by omega
          exact oct8 (heap_alloc_new X4 (.cells #[.int .i64 kind, .string lo, .string hi, .bool op, .int .i64 cnt, .int .u64 s0, .int .u64 s1, .slice (some ⟨ge, 0, none⟩) el ce] 51)), ents_own OE5.out HKS.out⟩⟩⟩)
      have B6 := aside (B4.out.trans (B5.out.mono B4.out.size))
      have HNT := aside (fun i (hi : i < j) q (e : (P' i).ea = some ⟨q, 0, none⟩) => (show q ≠ g from by
        obtain ⟨q1, k1, k2⟩ := OW5.out.ent i hi
        rw [k1] at e
        injection e with e
        injection e with e _ _
        subst e
        exact fun e2 => by subst e2; exact absurd (own_type k2 OW5.out.row) (by decide)))
      have HNG := aside (show ge ≠ g from fun e2 => by subst e2; exact absurd (own_type OE5.out OW5.out.row) (by decide))
      clear B5 OE4 OW4 K4 B4
      go_wp2_with (at_builtin; refine wpList_plain rfl fun K hK => op_append_parts (V := X0) _ _ rfl j (.slice (some ⟨g, 0, none⟩) j cp) (firstP P' j) (by rfl) OW5.out.row ⟨X4.heap.size, 0, none⟩ 1 1 (fun _ => ⟨kind, lo, hi, op, cnt, s0, s1, some ⟨ge, 0, none⟩, el, ce, T⟩) (by rfl) HPI.out (by have := HZ.out; omega) B6.out ?_; intro v5 w5 own5 b5 g5; refine hK _ _ ?_; refine Hid.out ?_)
      refine aside ?_
      obtain ⟨g6, cp6, rfl, -⟩ := own_sl own5 (by omega)
      have g5' : (X4.alloc (.cells #[.int .i64 kind, .string lo, .string hi, .bool op, .int .i64 cnt, .int .u64 s0, .int .u64 s1, .slice (some ⟨ge, 0, none⟩) el ce] 51)).grownBy w5 (some g) := g5
      have OW6 := aside (show OwnF w5 X0.heap.size g6 (j + 1) cp6 (addP P' j ⟨kind, lo, hi, op, cnt, s0, s1, some ⟨ge, 0, none⟩, el, ce, T⟩) from by
        refine ⟨?_, fun i hi => ?_, fun i k hi hk hne => ?_, fun i hi => ?_⟩
        · rw [firstP_snoc, firstP_ext (Q := P') (fun i hi => addP_lt hi), addP_at]
          exact own5
        · by_cases hij : i < j
          · rw [addP_lt hij]
            obtain ⟨q, k1, k2⟩ := OW5.out.ent i hij
            exact ⟨q, k1, own_grown k2 g5' (HNT.out i hij q k1)⟩
          · obtain rfl : i = j := by omega
            rw [addP_at]
            exact ⟨ge, rfl, own_grown (own_low OE5.out HSX.out) g5' HNG.out⟩
        · by_cases h1 : i < j
          · by_cases h2 : k < j
            · rw [addP_lt h1, addP_lt h2]; exact OW5.out.apart i k h1 h2 hne
            · obtain rfl : k = j := by omega
              rw [addP_lt h1, addP_at]
              intro e
              have h3 := (HLT.out.2 i h1 ge e).2
              have h4 := HGE.out
              omega
          · obtain rfl : i = j := by omega
            have h2 : k < i := by omega
            rw [addP_lt h2, addP_at]
            intro e
            have h3 := (HLT.out.2 k h2 ge e.symm).2
            have h4 := HGE.out
            omega
        · by_cases hij : i < j
          · rw [addP_lt hij]; exact OW5.out.keys i hij
          · obtain rfl : i = j := by omega
            rw [addP_at]; exact HKS.out)
      have HS6 := aside (show ∀ i, i < j + 1 → SamePm (P i) (addP P' j ⟨kind, lo, hi, op, cnt, s0, s1, some ⟨ge, 0, none⟩, el, ce, T⟩ i) from fun i hi => by
        by_cases hij : i < j
        · rw [addP_lt hij]; exact HS.out i hij
        · obtain rfl : i = j := by omega
          rw [addP_at, HP.out]
          exact ⟨rfl, rfl, rfl, rfl, rfl, rfl, rfl, rfl, fun _ _ => rfl⟩)
      have B7 := aside b5
      clear own5 b5 g5 g5' OE5 OW5 HPI B6 HNT HNG p0 p1 p2 p3 p4 p5 p6 p7
      go_wp2
      go_roundw
      case rel => exact ⟨j + 1, g6, cp6, addP P' j ⟨kind, lo, hi, op, cnt, s0, s1, some ⟨ge, 0, none⟩, el, ce, T⟩, rfl, by go_num, by omega, OW6.out, HS6.out, B7.out⟩
      case measure => simp [intOf]; omega
    · have hjl : j = len := by omega
      subst hjl
      have KFr := aside (blk_on KF.out HB.out)
      have KZr := aside (blk_on KZ.out HB.out)
      have HLT := aside OW.out.lts
      have fz6 := frozen_of_row _ _ 6 _ _ KFr.out
      go_upto_region 10 with fail
      have KF2 := aside (set_in 6 (.slice (some ⟨g, 0, none⟩) j cp) KFr.out)
      simp only [List.setIfInBounds_toArray, List.set_cons_zero, List.set_cons_succ] at KF2
      have KZ2 := aside (set_far1 KZr.out (show w.heap.size + 1 ≠ w.heap.size by omega) 6 (.slice (some ⟨g, 0, none⟩) j cp))
      have OW2 := aside (OW.out.setc (a := w.heap.size) (k := 6) (by have h1 := HLT.out.1.1; have h2 := HX0.out; omega) (fun i hi q e => by have h1 := (HLT.out.2 i hi q e).1; have h2 := HX0.out; omega) (.slice (some ⟨g, 0, none⟩) j cp))
      have B2 := aside ((bthen BX.out HB.out).setCell (p := ⟨w.heap.size, 6, none⟩) (Nat.le_refl _) (.slice (some ⟨g, 0, none⟩) j cp))
      clear f6 fz6 KFr KZr OW HB
      generalize wr.setCell ⟨w.heap.size, 6, none⟩ (.slice (some ⟨g, 0, none⟩) j cp) = Y at KF2 KZ2 OW2 B2 ⊢
      obtain ⟨f0, f1, f2, f3, f4, f5, f6⟩ := sep7 KF2.out
      have HLE : w.heap.size ≤ w.heap.size + 1 := by omega
      obtain ⟨a0, a1, a2, a3, a4, a5, a6, hkz⟩ : ∃ a0 a1 a2 a3 a4 a5 a6 : Value, Y.heap[w.heap.size + 1]? = some (Obj.cells #[a0, a1, a2, a3, a4, a5, a6] 26 (0, 0)) := ⟨_, _, _, _, _, _, _, KZ2.out⟩
      clear KZ2
      have KZ2 := aside hkz
      clear hkz
      obtain ⟨z0, z1, z2, z3, z4, z5, z6⟩ := sep7 KZ2.out
      have y0 := frozen_of_row _ _ 0 _ _ KZ2.out
      have y1 := frozen_of_row _ _ 1 _ _ KZ2.out
      have y2 := frozen_of_row _ _ 2 _ _ KZ2.out
      have y3 := frozen_of_row _ _ 3 _ _ KZ2.out
      have y4 := frozen_of_row _ _ 4 _ _ KZ2.out
      have y5 := frozen_of_row _ _ 5 _ _ KZ2.out
      have y6 := frozen_of_row _ _ 6 _ _ KZ2.out
      have KR := (set_in 6 (.slice (some ⟨g, 0, none⟩) j cp) (set_in 5 (.int .i64 tn) (set_in 4 (.int .i64 n) (set_in 3 (.int .i64 l) (set_in 2 (.int .i64 o) (set_in 1 (.int .i64 tz) (set_in 0 (.int .i64 fr) KZ2.out)))))))
      simp only [List.setIfInBounds_toArray, List.set_cons_zero, List.set_cons_succ] at KR
      have HKR := aside KR
      have BF := aside ((((((((B2.out.setCell (p := ⟨w.heap.size + 1, 0, none⟩) HLE (.int .i64 fr)).setCell (p := ⟨w.heap.size + 1, 1, none⟩) HLE (.int .i64 tz)).setCell (p := ⟨w.heap.size + 1, 2, none⟩) HLE (.int .i64 o)).setCell (p := ⟨w.heap.size + 1, 3, none⟩) HLE (.int .i64 l)).setCell (p := ⟨w.heap.size + 1, 4, none⟩) HLE (.int .i64 n)).setCell (p := ⟨w.heap.size + 1, 5, none⟩) HLE (.int .i64 tn)).setCell (p := ⟨w.heap.size + 1, 6, none⟩) HLE (.slice (some ⟨g, 0, none⟩) j cp)))
      clear KR
      have OWF := aside ((((((((OW2.out.setc (a := w.heap.size + 1) (k := 0) (by have h1 := HLT.out.1.1; have h2 := HX0.out; omega) (fun i hi q e => by have h1 := (HLT.out.2 i hi q e).1; have h2 := HX0.out; omega) (.int .i64 fr)).setc (a := w.heap.size + 1) (k := 1) (by have h1 := HLT.out.1.1; have h2 := HX0.out; omega) (fun i hi q e => by have h1 := (HLT.out.2 i hi q e).1; have h2 := HX0.out; omega) (.int .i64 tz)).setc (a := w.heap.size + 1) (k := 2) (by have h1 := HLT.out.1.1; have h2 := HX0.out; omega) (fun i hi q e => by have h1 := (HLT.out.2 i hi q e).1; have h2 := HX0.out; omega) (.int .i64 o)).setc (a := w.heap.size + 1) (k := 3) (by have h1 := HLT.out.1.1; have h2 := HX0.out; omega) (fun i hi q e => by have h1 := (HLT.out.2 i hi q e).1; have h2 := HX0.out; omega) (.int .i64 l)).setc (a := w.heap.size + 1) (k := 4) (by have h1 := HLT.out.1.1; have h2 := HX0.out; omega) (fun i hi q e => by have h1 := (HLT.out.2 i hi q e).1; have h2 := HX0.out; omega) (.int .i64 n)).setc (a := w.heap.size + 1) (k := 5) (by have h1 := HLT.out.1.1; have h2 := HX0.out; omega) (fun i hi q e => by have h1 := (HLT.out.2 i hi q e).1; have h2 := HX0.out; omega) (.int .i64 tn)).setc (a := w.heap.size + 1) (k := 6) (by have h1 := HLT.out.1.1; have h2 := HX0.out; omega) (fun i hi q e => by have h1 := (HLT.out.2 i hi q e).1; have h2 := HX0.out; omega) (.slice (some ⟨g, 0, none⟩) j cp)))
      clear HLE
      go_wp2
      obtain ⟨r0, r1, r2, r3, r4, r5, r6⟩ := sep7 HKR.out
      exact bodyPost_ret (v := .agg #[.int .i64 fr, .int .i64 tz, .int .i64 o, .int .i64 l, .int .i64 n, .int .i64 tn, .slice (some ⟨g, 0, none⟩) j cp]) (by simp [results, Try.results31, go_sem, r0, r1, r2, r3, r4, r5, r6]) rfl ⟨g, cp, rfl, P', OWF.out.low (by have h2 := HX0.out; omega), HS.out, BF.out⟩
end Go.Proofs.Ytoabncoigleiaaa
namespace Go.Proofs.Ytoabncoigleiaaa
open Go.RowKit
set_option linter.unusedVariables false
set_option maxHeartbeats 1600000 in
theorem cloneE_any (y : Addr) (len cap : Nat) (T : Nat → En) (w : World) (h : EntsIn w (some y) len cap T) (hz : len * 56 ≤ 140737488351232) :
    Calls Try.prog 37 #[.slice (some y) len cap] w fun e w' => ∃ g c, e = .returned (.slice (some ⟨g, 0, none⟩) len c) ∧ w'.ownsRow w.heap.size 55 5 (.slice (some ⟨g, 0, none⟩) len c) len (entCells (firstEF T len)) ∧ Below w.heap.size w w' := by
  have hnil : ∀ w, (binOp .eql 49 (.slice (some y) len cap) (.slice none 0 0)).run Try.prog w = .ok (.bool false) w := fun w => by kernel_rfl
  have O0 := aside (show (w.alloc (.cells #[] 55)).ownsRow w.heap.size 55 5 (.slice (some ⟨w.heap.size, 0, none⟩) 0 0) 0 (entCells []) from ⟨rfl, .inr ⟨w.heap.size, 0, #[], rfl, Nat.le_refl _, heap_alloc_new w (.cells #[] 55), Nat.le_refl _, Nat.zero_le _, rfl, rfl⟩⟩)
  have BV := aside (bnew w (.cells #[] 55))
  have HL := aside (h.keep BV.out)
  have HZ := aside hz
  have HSZ := aside (show w.heap.size ≤ (w.alloc (.cells #[] 55)).heap.size from by rw [World.size_alloc]; omega)
  clear h hz
  go_enter Try.func37, Try.ntmps37
  go_wp2_with (at_builtin; refine wpList_plain rfl fun K hK => op_append_entsF _ _ rfl w.heap.size w.heap.size 0 (by rfl) O0.out (some y) len cap T (by rfl) HL.out (.inr ⟨y, rfl⟩) HZ.out HSZ.out ?_; intro g1 c1 w1 own1 gr1; refine hK _ _ ?_; refine Hid.out ?_)
  refine aside ?_
  have O1 := aside own1
  have B1 := aside (BV.out.trans (((Keeps.refl (fun x => x = w.heap.size) _).grown gr1 (fun k hk _ => (Option.some.inj hk).symm)).below HSZ.out (fun k hk e => by omega)))
  clear own1 gr1 O0 BV HL
  go_wp2
  go_ret
  exact ⟨_, _, rfl, O1.out, B1.out⟩
end Go.Proofs.Ytoabncoigleiaaa
namespace Go.Proofs.Ytoabncoigleiaaa
open Go.RowKit
set_option linter.unusedVariables false
theorem ptCells_set : ∀ (l : List Pm) (j : Nat) (p q : Pm), l[j]? = some p → ptVals q = (ptVals p).set 7 (.slice q.ea q.el q.ec) → (ptCells l).set (j * 8 + 7) (.slice q.ea q.el q.ec) = ptCells (l.set j q)
  | [], j, p, q, h, _ => by simp at h
  | x :: r, 0, p, q, h, hq => by
    simp at h; subst h
    simp only [ptCells, List.set_cons_zero]
    rw [List.set_append_left _ _ (by simp [ptVals]), hq]
  | x :: r, j + 1, p, q, h, hq => by
    simp only [ptCells, List.set_cons_succ]
    rw [List.set_append_right _ _ (by simp [ptVals]; omega)]
    have := ptCells_set r j p q (by simpa using h) hq
    rw [← this]
    congr 2
    simp [ptVals]
    omega
/-- A part with other entries. -/
def Pm.with (p : Pm) (ea : Option Addr) (el ec : Nat) (T : Nat → En) : Pm := ⟨p.kind, p.lo, p.hi, p.op, p.cnt, p.s0, p.s1, ea, el, ec, T⟩
def putP (P : Nat → Pm) (j : Nat) (p : Pm) : Nat → Pm := fun i => if i = j then p else P i
theorem putP_at {P : Nat → Pm} {j : Nat} {p : Pm} : putP P j p j = p := if_pos rfl
theorem putP_ne {P : Nat → Pm} {j i : Nat} {p : Pm} (h : i ≠ j) : putP P j p i = P i := if_neg h
theorem firstP_put (P : Nat → Pm) (n j : Nat) (p : Pm) (h : j < n) : firstP (putP P j p) n = (firstP P n).set j p := by
  apply List.ext_getElem?
  intro i
  unfold firstP
  rw [List.getElem?_map, List.getElem?_set, List.getElem?_map]
  by_cases hi : i < n
  · rw [List.getElem?_range hi]
    by_cases e : j = i
    · subst e
      rw [if_pos rfl, if_pos (by simpa using h)]
      simp [putP]
    · rw [if_neg e]
      simp only [Option.map_some, putP, if_neg (fun q : i = j => e q.symm)]
  · rw [List.getElem?_eq_none (by simpa using hi)]
    by_cases e : j = i
    · omega
    · rw [if_neg e]; rfl
theorem OwnF.put {w : World} {B g n cp j ge el ce : Nat} {P : Nat → Pm} {T : Nat → En} (h : OwnF w B g n cp P) (hj : j < n) (hown : w.ownsRow B 55 5 (.slice (some ⟨ge, 0, none⟩) el ce) el (entCells (firstEF T el))) (hap : ∀ i, i < n → i ≠ j → (P i).ea ≠ some ⟨ge, 0, none⟩) (hk : ∀ k, k < el → (T k).k.size ≤ 140737488351232) :
    OwnF (w.setCell ⟨g, j * 8 + 7, none⟩ (.slice (some ⟨ge, 0, none⟩) el ce)) B g n cp (putP P j ((P j).with (some ⟨ge, 0, none⟩) el ce T)) := by
  refine ⟨?_, fun i hi => ?_, fun i k hi hk' hne => ?_, fun i hi => ?_⟩
  · rw [firstP_put P n j _ hj, ← ptCells_set (firstP P n) j (P j) ((P j).with (some ⟨ge, 0, none⟩) el ce T) (by unfold firstP; rw [List.getElem?_map, List.getElem?_range hj]; rfl) (by rfl)]
    exact (h.row.stored (j * 8 + 7) _).1
  · by_cases e : i = j
    · subst e
      rw [putP_at]
      exact ⟨ge, rfl, own_apartF hown (fun q => by subst q; exact absurd (own_type hown h.row) (by decide)) _⟩
    · rw [putP_ne e]
      obtain ⟨q, k1, k2⟩ := h.ent i hi
      exact ⟨q, k1, own_apartF k2 (fun u => by subst u; exact absurd (own_type k2 h.row) (by decide)) _⟩
  · by_cases e : i = j
    · subst e
      rw [putP_at, putP_ne (fun u => hne u.symm)]
      exact fun u => hap k hk' (fun v => hne v.symm) u.symm
    · rw [putP_ne e]
      by_cases e2 : k = j
      · subst e2
        rw [putP_at]
        exact hap i hi e
      · rw [putP_ne e2]
        exact h.apart i k hi hk' hne
  · by_cases e : i = j
    · subst e
      rw [putP_at]; exact hk
    · rw [putP_ne e]; exact h.keys i hi
/-- A frame of its own as a list of parts in memory. -/
theorem OwnF.parts {w : World} {B g n cp : Nat} {P : Nat → Pm} (h : OwnF w B g n cp P) : PartsIn w (some ⟨g, 0, none⟩) n cp P :=
  parts_of_row h.row (fun i hi => by
    obtain ⟨ge, k1, k2⟩ := h.ent i hi
    unfold Pm.In
    rw [k1]
    exact ents_own k2 (h.keys i hi))
end Go.Proofs.Ytoabncoigleiaaa

/-
  Split of a store, where the range may be and has keys enough.
-/
import Derived.Test.YtoflalflacopdaaDoorBg29
import Derived.Test.YtoflalflacopdaaDoorBg28
namespace Go.Proofs.YtoflalflacopdaaDoor
open Go.RowKit
set_option linter.unusedVariables false
set_option maxHeartbeats 3200000 in
set_option maxRecDepth 100000 in
theorem qsplit_ok (r : Rg) (q : Nat) {w : World} {sb g tb : Nat} {nd ck : Int} {Ls : List En} (h : Sto w sb g tb nd ck Ls) (hm : MapL Ls) (hl : Ls.length ≤ 256) (hc : r.chk = 0) (hq : q + 1 ≤ (keysIn r Ls).length) :
    Calls Tryd.prog 10 #[.pointer (some ⟨sb, 0, none⟩), .agg #[.string r.lo, .string r.hi, .bool r.op], .int .i64 ((q : Int) + 1)] w fun e w' => ∃ g cp, e = .returned (.tuple #[.slice (some ⟨g, 0, none⟩) (q + 1) cp, .int .i64 0]) ∧ w'.ownsRow w.heap.size 24 3 (.slice (some ⟨g, 0, none⟩) (q + 1) cp) (q + 1) (rgCells (cutR r Ls q) (q + 1)) ∧ Below w.heap.size w w' := by
  obtain ⟨T, n, h1, hH⟩ := h
  have hk := keysR_in (r := r) hH (chk_may hc)
  refine (ssplit r.lo r.hi r.op ((q : Int) + 1) h1 hH (by omega) (fun W v c X => c = 0 ∧ ∃ g cp, v = .slice (some ⟨g, 0, none⟩) (q + 1) cp ∧ X.ownsRow W.heap.size 24 3 (.slice (some ⟨g, 0, none⟩) (q + 1) cp) (q + 1) (rgCells (cutR r Ls q) (q + 1))) ?_ ?_).mono ?_
  · rintro V v c X D ⟨e1, g2, cp, e2, e3⟩ - hD
    refine ⟨e1, g2, cp, e2, e3.1, ?_⟩
    rcases e3.2 with h5 | ⟨g3, cap, cur, f1, f2, f3, f4⟩
    · exact .inl h5
    · refine .inr ⟨g3, cap, cur, f1, f2, ?_, f4⟩
      exact (World.putObj_heap_other (fun e => by subst e; rw [hD] at f3; cases f3)).trans f3
  · intro W a m c b hs hlen
    rw [hk] at hs hlen
    subst hlen
    refine (ranges_ok r.lo r.hi r.op a (keysIn r Ls).length c _ q W hs hc (keys_keyE hm) (keys_allK hm hc) hq (Nat.le_trans (keysIn_le _ _) hl)).mono ?_
    rintro e w' ⟨g2, cp, rfl, o, -, b2⟩
    exact ⟨_, _, rfl, ⟨rfl, g2, cp, rfl, o⟩, b2⟩
  · rintro e w' ⟨W, v, c, rfl, ⟨rfl, g2, cp, rfl, o⟩, hs, b⟩
    exact ⟨g2, cp, rfl, own_low o hs, b⟩
end Go.Proofs.YtoflalflacopdaaDoor

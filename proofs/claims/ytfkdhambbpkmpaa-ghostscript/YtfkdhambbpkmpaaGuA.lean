/-
  New, Wrote, Written and Held of the code's ghost; lists cloned.
-/
import Derived.Test.YtfkdhambbpkmpaaGuM
import Derived.Test.YtfkdhambbpkmpaaMgIn
import Derived.Deep.CutBlock
import Derived.Deep.DeepCutAuto
namespace Go.Proofs.Ytfkdhambbpkmpaa
open Go.RowKit
set_option linter.unusedVariables false

theorem op_append_entsG {w : World} {o : Oper} {act : Act} {K : Act → World → Prop} {Q : Exit → Act → World → Prop} (s x : Operand)
    (ho : o.op = .call { callee := .builtin .append, args := #[s, x], argTypes := #[32, 32] })
    (B n : Nat) (v : Value) (A : List En) (hs : act.eval s = v) (hown : w.ownsRow B 31 5 v n (entCells A)) (a : Option Addr) (len cap m : Nat) (T : Nat → En) (hx : act.eval x = .slice a len cap) (hE : EntsIn w a len cap T)
    (hform : (a = none ∧ len = 0 ∧ cap = 0) ∨ ∃ y, a = some y) (hm : n + len = m) (hlen : m * 56 ≤ 140737488351232) (hB : B ≤ w.heap.size)
    (h : ∀ a' c' w', w'.ownsRow B 31 5 (.slice a' m c') m (entCells (A ++ firstE T len)) → w.grownBy w' v.ownBlock → K (act.put o.dst (.slice a' m c')) w') : o.wp Try.prog act w K Q := by
  obtain ⟨i0, hi, hz0, hz1, hz2⟩ := info_parts infoEnt
  subst hm
  rcases hform with ⟨rfl, rfl, rfl⟩ | ⟨y, rfl⟩
  · have hrun := run_append_owned_none (P := Try.prog) (w := w) B 32 o.type 31 i0 5 Try.underlying32 hi _ _ _ hown
    obtain ⟨a', c', rfl, -⟩ := own_slice hown
    have h0 : K (act.put o.dst (.slice a' n c')) w := by simpa using h a' c' w (by simpa [firstE] using hown) ⟨rfl, rfl, rfl, Nat.le_refl _, fun _ _ _ => rfl⟩
    unfold Oper.wp
    simp [execOp, ho, resolve, invoke, builtin, hs, hx, hrun, Result.andThen]
    exact h0
  · refine wp_append_own w s x _ ho B 31 i0 _ 5 56 Try.underlying32 hi hz0 hz1 hz2 rfl (by decide) _ _ _ hs hown y len cap (entCells (firstE T len)) hx (by rw [entCells_length, firstE_len]) (ents_cells hE) (entCells_one _) (by unfold maxLen; omega) (by omega) hB ?_
    intro v' w' ho' hg _
    rw [← entCells_append] at ho'
    obtain ⟨a', c', rfl, -⟩ := own_slice ho'
    exact h a' c' w' ho' hg

theorem wf_chk {e : En} (h : e.chk = 0) : wfW (wrOf e) := by
  have h3 := (chk_pos h).2.1
  have h2 : Vs.chk e.c e.n = 0 := by
    unfold En.chk at h
    split at h
    · omega
    · split at h
      · omega
      · rename_i h4
        exact Decidable.not_not.1 h4
  unfold Vs.chk at h2
  unfold wfW wrOf i64G maxLen
  dsimp only
  split at h2
  · omega
  · omega
theorem keeps_turnedG {w w' : World} {b : Nat} (h : w.mapTurned w' b) : Keeps (fun k => k = b) w w' := (Keeps.refl _ w).grown h.grown (fun k e _ => by injection e with e; exact e.symm)
/-- Something was written: the map alone has turned. -/
theorem Gh.upd {w : World} {B p m N : Nat} {L : List En} {H : Nat → Hd} {w' : World} {N' : Nat} {L' : List En} (h : Gh w B p m N L H) (k : Keeps (fun x => x = m) w w') (hm : ∃ D, w'.ownsMap Try.prog 60 RE m N' D ∧ RepW D L') (hc : ∀ e ∈ L', e.chk = 0) : Gh w' B p m N' L' H := by
  obtain ⟨D, ⟨es, clock, h4, -⟩, -⟩ := h.mp
  refine ⟨blk_keep h.bx k h.ne, h.pB, h.mB, hm, hc, fun i hi => ownsRow_keep (h.held i hi) k (fun j hj e => ?_), h.maps, h.sz⟩
  rcases (h.held i hi).2 with ⟨e2, -⟩ | ⟨g, cap, cur, e2, hbg, hg, r⟩
  · rw [e2] at hj; cases hj
  · rw [e2] at hj
    have e3 : g = j := by simpa [Value.ownBlock] using hj
    rw [e3, e, h4] at hg
    cases hg
theorem set_fiveG {w : World} {b : Nat} {x y z d e : Value} {t : TypeId} (h : w.heap[b]? = some (.cells #[x, y, z, d, e] t (0, 0))) (u0 u1 u2 u3 u4 : Value) : (((((w.setCell ⟨b, 0, none⟩ u0).setCell ⟨b, 1, none⟩ u1).setCell ⟨b, 2, none⟩ u2).setCell ⟨b, 3, none⟩ u3).setCell ⟨b, 4, none⟩ u4).heap[b]? = some (.cells #[u0, u1, u2, u3, u4] t (0, 0)) := blk_set5 h u0 u1 u2 u3 u4
theorem bel_fiveG {B : Nat} {w0 w : World} {b : Nat} (h : Below B w0 w) (hb : B ≤ b) (u0 u1 u2 u3 u4 : Value) : Below B w0 (((((w.setCell ⟨b, 0, none⟩ u0).setCell ⟨b, 1, none⟩ u1).setCell ⟨b, 2, none⟩ u2).setCell ⟨b, 3, none⟩ u3).setCell ⟨b, 4, none⟩ u4) :=
  ((((h.setCell (p := ⟨b, 0, none⟩) hb u0).setCell (p := ⟨b, 1, none⟩) hb u1).setCell (p := ⟨b, 2, none⟩) hb u2).setCell (p := ⟨b, 3, none⟩) hb u3).setCell (p := ⟨b, 4, none⟩) hb u4
theorem threeG {w : World} {i : Nat} {a b c : Value} {T : TypeId} (h : w.heap[i]? = some (.cells #[a, b, c] T (0, 0))) : w.cell? ⟨i, 0, none⟩ = some a ∧ w.cell? ⟨i, 1, none⟩ = some b ∧ w.cell? ⟨i, 2, none⟩ = some c := by
  simp [World.cell?, h]
theorem set_oneG {w : World} {b k : Nat} {cs : Array Value} {t : TypeId} (h : w.heap[b]? = some (.cells cs t (0, 0))) (u : Value) : (w.setCell ⟨b, k, none⟩ u).heap[b]? = some (.cells (cs.setIfInBounds k u) t (0, 0)) := by
  rw [heap_setCell_same w b k _ _ _ h]
theorem set_threeG {w : World} {b : Nat} {x y z : Value} {t : TypeId} (h : w.heap[b]? = some (.cells #[x, y, z] t (0, 0))) (u v r : Value) : (((w.setCell ⟨b, 0, none⟩ u).setCell ⟨b, 1, none⟩ v).setCell ⟨b, 2, none⟩ r).heap[b]? = some (.cells #[u, v, r] t (0, 0)) := by
  have h1 := set_oneG (k := 2) (set_oneG (k := 1) (set_oneG (k := 0) h u) v) r
  simpa using h1

set_option maxHeartbeats 3200000 in
theorem gnew_any (w : World) : Calls Try.prog 6 #[] w fun e w' => ∃ p m, e = .returned (.pointer (some ⟨p, 0, none⟩)) ∧ Gh w' w.heap.size p m 0 [] (fun _ => hd0) ∧ Below w.heap.size w w' := by
  have hmm := @run_makeMap Try.prog
  go_enter Try.func6, Try.ntmps6
  go_wp2
  go_ret
  have b1 := bnew w (.map #[] 0)
  have m1 := World.ownsMap_made w Try.prog 60 RE
  have b2 := bnew (w.alloc (.map #[] 0)) (.cells #[.map (some w.heap.size), hd0.v, hd0.v, hd0.v, hd0.v, hd0.v, hd0.v, hd0.v, hd0.v] 51)
  have k2 := heap_alloc_new (w.alloc (.map #[] 0)) (.cells #[.map (some w.heap.size), hd0.v, hd0.v, hd0.v, hd0.v, hd0.v, hd0.v, hd0.v, hd0.v] 51)
  obtain ⟨es, clock, h1, r⟩ := m1
  exact ⟨_, _, rfl, ⟨by simpa [hd0, Hd.v] using k2, by simp, Nat.le_refl _, ⟨_, ⟨es, clock, blk_on h1 b2, r⟩, RepW.zero⟩, fun e he => (by cases he), fun i hi => ⟨rfl, .inl ⟨rfl, rfl⟩⟩, fun i hi => MapL.nil, fun i hi => Nat.zero_le _⟩, bthen b1 b2⟩

set_option maxHeartbeats 3200000 in
theorem writeof_any (e : En) (w : World) : Calls Try.prog 26 #[.agg #[.string e.k, .int .i64 e.c, .int .i64 e.n, .string e.v, .bool e.d]] w fun r w' => r = .returned (.agg #[.string e.k, .int .i64 e.c, .int .i64 e.n]) ∧ Below w.heap.size w w' := by
  obtain ⟨q, hq⟩ : ∃ q, w.heap.size = q := ⟨_, rfl⟩
  obtain ⟨V, hV⟩ : ∃ V, (w.alloc (.cells #[.string e.k, .int .i64 e.c, .int .i64 e.n, .string e.v, .bool e.d] 31)).alloc (.cells #[.string ⟨#[]⟩, .int .i64 0, .int .i64 0] 60) = V := ⟨_, rfl⟩
  have k0 := heap_alloc_new w (.cells #[.string e.k, .int .i64 e.c, .int .i64 e.n, .string e.v, .bool e.d] 31)
  have k1 := heap_alloc_new (w.alloc (.cells #[.string e.k, .int .i64 e.c, .int .i64 e.n, .string e.v, .bool e.d] 31)) (.cells #[.string ⟨#[]⟩, .int .i64 0, .int .i64 0] 60)
  have b0 := bnew w (.cells #[.string e.k, .int .i64 e.c, .int .i64 e.n, .string e.v, .bool e.d] 31)
  have b1 := bnew (w.alloc (.cells #[.string e.k, .int .i64 e.c, .int .i64 e.n, .string e.v, .bool e.d] 31)) (.cells #[.string ⟨#[]⟩, .int .i64 0, .int .i64 0] 60)
  replace k0 := blk_on k0 b1
  have BB := aside (bthen b0 b1)
  simp only [World.size_alloc] at k1
  rw [hq] at k0 k1
  rw [hV] at BB k0 k1
  obtain ⟨⟨c0, c1, c2, c3, c4⟩, -⟩ := box5 k0
  obtain ⟨d0, d1, d2⟩ := threeG k1
  have f0 := frozen_of_row V (q + 1) 0 _ _ k1
  have f1 := frozen_of_row V (q + 1) 1 _ _ k1
  have f2 := frozen_of_row V (q + 1) 2 _ _ k1
  obtain ⟨r0, r1, r2⟩ := threeG (set_threeG k1 (.string e.k) (.int .i64 e.c) (.int .i64 e.n))
  have FB := aside (((BB.out.setCell (p := ⟨q + 1, 0, none⟩) (by show w.heap.size ≤ q + 1; omega) (.string e.k)).setCell (p := ⟨q + 1, 1, none⟩) (by show w.heap.size ≤ q + 1; omega) (.int .i64 e.c)).setCell (p := ⟨q + 1, 2, none⟩) (by show w.heap.size ≤ q + 1; omega) (.int .i64 e.n))
  clear k0 k1 b0 b1 BB
  go_enter Try.func26, Try.ntmps26
  go_upto_region 1 with fail
  try rw [hV]
  try rw [hq]
  clear hV hq
  go_wp2
  try simp only [Exit.inBlock, Exit.then]
  exact bodyPost_ret (v := .agg #[.string e.k, .int .i64 e.c, .int .i64 e.n]) (by simp [results, Try.results26, go_sem, r0, r1, r2]) rfl ⟨rfl, FB.out⟩

/-- Was just this entry written? -/
def wrB (L : List En) (e : En) : Bool := (lookW L (wrOf e)).isSome && enEqB ((lookW L (wrOf e)).getD eZ) e
theorem wrB_iff {L : List En} (h : OneW L) (e : En) : wrB L e = true ↔ e ∈ L := by
  unfold wrB
  cases hl : lookW L (wrOf e) with
  | none =>
    simp only [Option.isSome_none, Bool.false_and, Bool.false_eq_true, false_iff]
    intro he
    rw [lookW_of h he] at hl
    cases hl
  | some t =>
    obtain ⟨ht, -⟩ := lookW_mem hl
    simp only [Option.isSome_some, Option.getD_some, Bool.true_and]
    rw [enEqB_iff]
    constructor
    · rintro rfl; exact ht
    · intro he
      rw [lookW_of h he] at hl
      injection hl with hl
      exact hl.symm
end Go.Proofs.Ytfkdhambbpkmpaa

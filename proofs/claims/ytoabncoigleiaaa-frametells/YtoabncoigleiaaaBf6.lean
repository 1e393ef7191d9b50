/-
  Equal of any two lists of entries: it says just whether they are the same.
  Two parts: isSamePart says just whether they are the same.
  Lists of parts: EqualFunc with isSamePart says just whether they are the same.
  Same of any two frames, the code's: it says just whether they are the same.
  The iterator over neighbours: what it hands to a loop's body, over every slice of ranges.
  Meet, the code's: it returns what the plain function gives, and writes nothing that was there.
  slices.ContainsFunc of Empty over every slice of ranges.
  Rising, the code's: it returns what the plain function gives, and writes nothing that was there.
-/
import Derived.Test.YtoabncoigleiaaaBf5
import Derived.Deep.CutBlock
import Derived.Deep.DeepCutAuto
import Derived.Test.YtoabncoigleiaaaBf1
import Derived.RangeFuncNested
import Derived.RangeFuncBound
import Derived.RangeFuncCalls
import Derived.RangeFuncLeaves
import Derived.Shelf.Abstract
import Derived.Shelf.RegionOpen
import Derived.OwnWalkIn
import Derived.TacticsInMore
import Derived.LoopNIn
import Derived.LoopIn
import Derived.Stop.RegionWithIn
import Derived.Laws.ResultCell
namespace Go.Proofs.Ytoabncoigleiaaa
open Go.RowKit
set_option linter.unusedVariables false
/-- Lists of entries that are the same. -/
def EsSame (T : Nat → En) (n : Nat) (U : Nat → En) (n2 : Nat) : Prop := n = n2 ∧ ∀ k, k < n → T k = U k
set_option maxHeartbeats 6400000 in
set_option maxRecDepth 100000 in
theorem eqE_any (a : Option Addr) (el ca : Nat) (T : Nat → En) (b : Option Addr) (el2 cb : Nat) (U : Nat → En) (w : World) (hA : EntsIn w a el ca T) (hB : EntsIn w b el2 cb U) :
    Calls Try.prog 68 #[.slice a el ca, .slice b el2 cb] w fun e w' => SaysS (EsSame T el U el2) e ∧ Below w.heap.size w w' := by
  by_cases hll : el = el2
  · subst hll
    have HJ1 := aside hA
    have HJ2 := aside hB
    have hmy : (el : Int) ≤ 9223372036854775807 := by have h1 := hA.1; have h2 := hA.2.1; unfold maxLen at h2; omega
    clear hA hB
    go_enter Try.func68, Try.ntmps68
    go_wp2
    go_loopw [13] (fun i wr => ∃ k : Nat, i = .int .i64 (k : Int) ∧ k ≤ el ∧ Hid (∀ m, m < k → T m = U m) ∧ Hid (Below w.heap.size w wr)) (fun i _ => el - (intOf i).toNat)
    case atStart => exact ⟨0, rfl, Nat.zero_le _, (fun m hm => by omega), Below.refl _ _⟩
    case round =>
      obtain ⟨k, rfl, hk, HTU, HB⟩ := hrel
      by_cases hlk : (k : Int) < (el : Int)
      · have hk0 : (0 : Int) ≤ (k : Int) := by omega
        rcases (HJ1.out.keep HB.out).2.2 with h0 | ⟨x1, o1, rfl, hx1, hy1⟩
        · omega
        rcases (HJ2.out.keep HB.out).2.2 with h0 | ⟨x2, o2, rfl, hx2, hy2⟩
        · omega
        obtain ⟨⟨m0, m1, m2, m3, m4⟩, -⟩ := hy1 k (by omega)
        obtain ⟨⟨n0, n1, n2, n3, n4⟩, -⟩ := hy2 k (by omega)
        obtain ⟨t, ht⟩ : ∃ t, T k = t := ⟨_, rfl⟩
        obtain ⟨u, hu⟩ : ∃ u, U k = u := ⟨_, rfl⟩
        rw [ht] at m0 m1 m2 m3 m4
        rw [hu] at n0 n1 n2 n3 n4
        have HT := aside ht
        have HU := aside hu
        have SZ := aside (fun W (bb : Below wr.heap.size wr W) => (show (W.cell? ⟨x1, o1 + k * 5, none⟩ = some (.string t.k) ∧ W.cell? ⟨x1, o1 + k * 5 + 1, none⟩ = some (.int .i64 t.c) ∧ W.cell? ⟨x1, o1 + k * 5 + 2, none⟩ = some (.int .i64 t.n) ∧ W.cell? ⟨x1, o1 + k * 5 + 3, none⟩ = some (.string t.v) ∧ W.cell? ⟨x1, o1 + k * 5 + 4, none⟩ = some (.bool t.d)) ∧ (W.cell? ⟨x2, o2 + k * 5, none⟩ = some (.string u.k) ∧ W.cell? ⟨x2, o2 + k * 5 + 1, none⟩ = some (.int .i64 u.c) ∧ W.cell? ⟨x2, o2 + k * 5 + 2, none⟩ = some (.int .i64 u.n) ∧ W.cell? ⟨x2, o2 + k * 5 + 3, none⟩ = some (.string u.v) ∧ W.cell? ⟨x2, o2 + k * 5 + 4, none⟩ = some (.bool u.d)) from ⟨⟨cell_in m0 bb, cell_in m1 bb, cell_in m2 bb, cell_in m3 bb, cell_in m4 bb⟩, ⟨cell_in n0 bb, cell_in n1 bb, cell_in n2 bb, cell_in n3 bb, cell_in n4 bb⟩⟩))
        clear hy1 hy2 ht hu m0 m1 m2 m3 m4 n0 n1 n2 n3 n4 hx1 hx2
        by_cases htu : t = u
        · subst htu
          have EQ := fun W => ent_ne_sameF t.k t.c t.n t.v t.d W
          go_wp2_with fail
          refine wp_region_held_drew (S := fun W => ((W.cell? ⟨x1, o1 + k * 5, none⟩ = some (.string t.k) ∧ W.cell? ⟨x1, o1 + k * 5 + 1, none⟩ = some (.int .i64 t.c) ∧ W.cell? ⟨x1, o1 + k * 5 + 2, none⟩ = some (.int .i64 t.n) ∧ W.cell? ⟨x1, o1 + k * 5 + 3, none⟩ = some (.string t.v) ∧ W.cell? ⟨x1, o1 + k * 5 + 4, none⟩ = some (.bool t.d)) ∧ (W.cell? ⟨x2, o2 + k * 5, none⟩ = some (.string t.k) ∧ W.cell? ⟨x2, o2 + k * 5 + 1, none⟩ = some (.int .i64 t.c) ∧ W.cell? ⟨x2, o2 + k * 5 + 2, none⟩ = some (.int .i64 t.n) ∧ W.cell? ⟨x2, o2 + k * 5 + 3, none⟩ = some (.string t.v) ∧ W.cell? ⟨x2, o2 + k * 5 + 4, none⟩ = some (.bool t.d))) ∧ Below wr.heap.size wr W) (by kernel_rfl) ⟨SZ.out _ (Below.refl _ wr).drew, (Below.refl _ wr).drew⟩ (fun hHeld => ?_)
          refine wpAnyH_take (i := 0) (v := ?_) rfl (by kernel_rfl) (by kernel_rfl) (by kernel_rfl) (fun _ _ _ h => h) (Or.inl ⟨by rfl, ?_⟩) (by assumption) ?_
          rotate_left
          · intro w hSw
            go_simp
            try with_reducible rfl
          simp only [Act.put, List.getElem_toArray, List.getElem_cons_zero, List.setIfInBounds_toArray, List.set_cons_zero, List.set_cons_succ]
          refine wpAnyH_take (i := 1) (v := ?_) rfl (by kernel_rfl) (by kernel_rfl) (by kernel_rfl) (fun _ _ _ h => h) (Or.inl ⟨by rfl, ?_⟩) (by assumption) ?_
          rotate_left
          · intro w hSw
            go_simp
            try with_reducible rfl
          simp only [Act.put, List.getElem_toArray, List.getElem_cons_zero, List.getElem_cons_succ, List.setIfInBounds_toArray, List.set_cons_zero, List.set_cons_succ]
          refine wpAnyH_take (i := 2) (v := ?_) rfl (by kernel_rfl) (by kernel_rfl) (by kernel_rfl) (fun _ _ _ h => h) (Or.inl ⟨by rfl, ?_⟩) (by assumption) ?_
          rotate_left
          · intro w hSw
            go_simp
            try with_reducible rfl
          simp only [Act.put, List.getElem_toArray, List.getElem_cons_zero, List.getElem_cons_succ, List.setIfInBounds_toArray, List.set_cons_zero, List.set_cons_succ]
          refine wpAnyH_take (i := 3) (v := ?_) rfl (by kernel_rfl) (by kernel_rfl) (by kernel_rfl) (fun _ _ _ h => h) (Or.inl ⟨by rfl, ?_⟩) (by assumption) ?_
          rotate_left
          · intro w hSw
            go_simp
            try with_reducible rfl
          simp only [Act.put, List.getElem_toArray, List.getElem_cons_zero, List.getElem_cons_succ, List.setIfInBounds_toArray, List.set_cons_zero, List.set_cons_succ]
          refine wpAnyH_take (i := 4) (v := ?_) rfl (by kernel_rfl) (by kernel_rfl) (by kernel_rfl) (fun _ _ _ h => h) (Or.inl ⟨by rfl, ?_⟩) (by assumption) ?_
          rotate_left
          · intro w hSw
            go_simp
            try with_reducible rfl
          simp only [Act.put, List.getElem_toArray, List.getElem_cons_zero, List.getElem_cons_succ, List.setIfInBounds_toArray, List.set_cons_zero, List.set_cons_succ]
          refine wpAnyH_take (i := 5) (v := ?_) rfl (by kernel_rfl) (by kernel_rfl) (by kernel_rfl) (fun _ _ _ h => h) (Or.inl ⟨by rfl, ?_⟩) (by assumption) ?_
          rotate_left
          · intro w hSw
            go_simp
            try with_reducible rfl
          simp only [Act.put, List.getElem_toArray, List.getElem_cons_zero, List.getElem_cons_succ, List.setIfInBounds_toArray, List.set_cons_zero, List.set_cons_succ]
          refine wpAnyH_take (i := 6) (v := ?_) rfl (by kernel_rfl) (by kernel_rfl) (by kernel_rfl) (fun _ _ _ h => h) (Or.inl ⟨by rfl, ?_⟩) (by assumption) ?_
          rotate_left
          · intro w hSw
            go_simp
            try with_reducible rfl
          simp only [Act.put, List.getElem_toArray, List.getElem_cons_zero, List.getElem_cons_succ, List.setIfInBounds_toArray, List.set_cons_zero, List.set_cons_succ]
          refine wpAnyH_take (i := 7) (v := ?_) rfl (by kernel_rfl) (by kernel_rfl) (by kernel_rfl) (fun _ _ _ h => h) (Or.inl ⟨by rfl, ?_⟩) (by assumption) ?_
          rotate_left
          · intro w hSw
            go_simp
            try with_reducible rfl
          simp only [Act.put, List.getElem_toArray, List.getElem_cons_zero, List.getElem_cons_succ, List.setIfInBounds_toArray, List.set_cons_zero, List.set_cons_succ]
          refine wpAnyH_take (i := 8) (v := .bool false) rfl (by kernel_rfl) (by kernel_rfl) (by kernel_rfl) (fun _ _ _ h => h) (Or.inl ⟨by rfl, ?_⟩) (by assumption) ?_
          · intro w hSw
            go_simp
            try exact EQ _
          simp only [Act.put, List.getElem_toArray, List.getElem_cons_zero, List.getElem_cons_succ, List.setIfInBounds_toArray, List.set_cons_zero, List.set_cons_succ]
          refine wpAnyH_done (by kernel_rfl) ?_ _
          have B9 := aside hHeld.2
          clear hHeld SZ
          go_wp2
          go_roundw
          case rel => exact ⟨k + 1, by go_num, by omega, aside (fun m hm => by
            by_cases e : m < k
            · exact HTU.out m e
            · obtain rfl : m = k := by omega
              rw [HT.out, HU.out]), HB.out.trans (B9.out.mono HB.out.size)⟩
          case measure => simp [intOf]; omega
        · have HNS := aside (show ¬ EsSame T el U el from fun h => by
            have h2 := h.2 k (by omega)
            rw [HT.out, HU.out] at h2
            exact htu h2)
          have EQ : ∀ W, (binOp .neq 55 (.agg #[.string t.k, .int .i64 t.c, .int .i64 t.n, .string t.v, .bool t.d]) (.agg #[.string u.k, .int .i64 u.c, .int .i64 u.n, .string u.v, .bool u.d])).run Try.prog W = .ok (.bool true) W := fun W => by rw [ent_neT, enEqT_ne htu]; rfl
          go_wp2_with fail
          refine wp_region_held_drew (S := fun W => ((W.cell? ⟨x1, o1 + k * 5, none⟩ = some (.string t.k) ∧ W.cell? ⟨x1, o1 + k * 5 + 1, none⟩ = some (.int .i64 t.c) ∧ W.cell? ⟨x1, o1 + k * 5 + 2, none⟩ = some (.int .i64 t.n) ∧ W.cell? ⟨x1, o1 + k * 5 + 3, none⟩ = some (.string t.v) ∧ W.cell? ⟨x1, o1 + k * 5 + 4, none⟩ = some (.bool t.d)) ∧ (W.cell? ⟨x2, o2 + k * 5, none⟩ = some (.string u.k) ∧ W.cell? ⟨x2, o2 + k * 5 + 1, none⟩ = some (.int .i64 u.c) ∧ W.cell? ⟨x2, o2 + k * 5 + 2, none⟩ = some (.int .i64 u.n) ∧ W.cell? ⟨x2, o2 + k * 5 + 3, none⟩ = some (.string u.v) ∧ W.cell? ⟨x2, o2 + k * 5 + 4, none⟩ = some (.bool u.d))) ∧ Below wr.heap.size wr W) (by kernel_rfl) ⟨SZ.out _ (Below.refl _ wr).drew, (Below.refl _ wr).drew⟩ (fun hHeld => ?_)
          refine wpAnyH_take (i := 0) (v := ?_) rfl (by kernel_rfl) (by kernel_rfl) (by kernel_rfl) (fun _ _ _ h => h) (Or.inl ⟨by rfl, ?_⟩) (by assumption) ?_
          rotate_left
          · intro w hSw
            go_simp
            try with_reducible rfl
          simp only [Act.put, List.getElem_toArray, List.getElem_cons_zero, List.setIfInBounds_toArray, List.set_cons_zero, List.set_cons_succ]
          refine wpAnyH_take (i := 1) (v := ?_) rfl (by kernel_rfl) (by kernel_rfl) (by kernel_rfl) (fun _ _ _ h => h) (Or.inl ⟨by rfl, ?_⟩) (by assumption) ?_
          rotate_left
          · intro w hSw
            go_simp
            try with_reducible rfl
          simp only [Act.put, List.getElem_toArray, List.getElem_cons_zero, List.getElem_cons_succ, List.setIfInBounds_toArray, List.set_cons_zero, List.set_cons_succ]
          refine wpAnyH_take (i := 2) (v := ?_) rfl (by kernel_rfl) (by kernel_rfl) (by kernel_rfl) (fun _ _ _ h => h) (Or.inl ⟨by rfl, ?_⟩) (by assumption) ?_
          rotate_left
          · intro w hSw
            go_simp
            try with_reducible rfl
          simp only [Act.put, List.getElem_toArray, List.getElem_cons_zero, List.getElem_cons_succ, List.setIfInBounds_toArray, List.set_cons_zero, List.set_cons_succ]
          refine wpAnyH_take (i := 3) (v := ?_) rfl (by kernel_rfl) (by kernel_rfl) (by kernel_rfl) (fun _ _ _ h => h) (Or.inl ⟨by rfl, ?_⟩) (by assumption) ?_
          rotate_left
          · intro w hSw
            go_simp
            try with_reducible rfl
          simp only [Act.put, List.getElem_toArray, List.getElem_cons_zero, List.getElem_cons_succ, List.setIfInBounds_toArray, List.set_cons_zero, List.set_cons_succ]
          refine wpAnyH_take (i := 4) (v := ?_) rfl (by kernel_rfl) (by kernel_rfl) (by kernel_rfl) (fun _ _ _ h => h) (Or.inl ⟨by rfl, ?_⟩) (by assumption) ?_
          rotate_left
          · intro w hSw
            go_simp
            try with_reducible rfl
          simp only [Act.put, List.getElem_toArray, List.getElem_cons_zero, List.getElem_cons_succ, List.setIfInBounds_toArray, List.set_cons_zero, List.set_cons_succ]
          refine wpAnyH_take (i := 5) (v := ?_) rfl (by kernel_rfl) (by kernel_rfl) (by kernel_rfl) (fun _ _ _ h => h) (Or.inl ⟨by rfl, ?_⟩) (by assumption) ?_
          rotate_left
          · intro w hSw
            go_simp
            try with_reducible rfl
          simp only [Act.put, List.getElem_toArray, List.getElem_cons_zero, List.getElem_cons_succ, List.setIfInBounds_toArray, List.set_cons_zero, List.set_cons_succ]
          refine wpAnyH_take (i := 6) (v := ?_) rfl (by kernel_rfl) (by kernel_rfl) (by kernel_rfl) (fun _ _ _ h => h) (Or.inl ⟨by rfl, ?_⟩) (by assumption) ?_
          rotate_left
          · intro w hSw
            go_simp
            try with_reducible rfl
          simp only [Act.put, List.getElem_toArray, List.getElem_cons_zero, List.getElem_cons_succ, List.setIfInBounds_toArray, List.set_cons_zero, List.set_cons_succ]
          refine wpAnyH_take (i := 7) (v := ?_) rfl (by kernel_rfl) (by kernel_rfl) (by kernel_rfl) (fun _ _ _ h => h) (Or.inl ⟨by rfl, ?_⟩) (by assumption) ?_
          rotate_left
          · intro w hSw
            go_simp
            try with_reducible rfl
          simp only [Act.put, List.getElem_toArray, List.getElem_cons_zero, List.getElem_cons_succ, List.setIfInBounds_toArray, List.set_cons_zero, List.set_cons_succ]
          refine wpAnyH_take (i := 8) (v := .bool true) rfl (by kernel_rfl) (by kernel_rfl) (by kernel_rfl) (fun _ _ _ h => h) (Or.inl ⟨by rfl, ?_⟩) (by assumption) ?_
          · intro w hSw
            go_simp
            try exact EQ _
          simp only [Act.put, List.getElem_toArray, List.getElem_cons_zero, List.getElem_cons_succ, List.setIfInBounds_toArray, List.set_cons_zero, List.set_cons_succ]
          refine wpAnyH_done (by kernel_rfl) ?_ _
          have B9 := aside hHeld.2
          clear hHeld SZ
          have HBF := aside (HB.out.trans (B9.out.mono HB.out.size))
          go_wp2
          go_ret
          exact ⟨.inr ⟨HNS.out, rfl⟩, HBF.out⟩
      · have HF := aside (show EsSame T el U el from ⟨rfl, fun m hm => HTU.out m (by omega)⟩)
        go_wp2
        go_ret
        exact ⟨.inl ⟨HF.out, rfl⟩, HB.out⟩
  · have hl2 : (el == el2) = false := by simpa using hll
    have hl3 : ((el : Int) == (el2 : Int)) = false := by simp; omega
    have hl4 : (el != el2) = true := by simpa using hll
    have hl5 : ((el : Int) != (el2 : Int)) = true := by simp; omega
    go_enter Try.func68, Try.ntmps68
    go_wp2
    go_ret
    exact ⟨.inr ⟨fun h => hll h.1, rfl⟩, Below.refl _ _⟩
end Go.Proofs.Ytoabncoigleiaaa
namespace Go.Proofs.Ytoabncoigleiaaa
open Go.RowKit
set_option linter.unusedVariables false
theorem rg_runF (lo hi : ByteArray) (op : Bool) (lo' hi' : ByteArray) (op' : Bool) (w : World) : (binOp .eql 43 (.agg #[.string lo, .string hi, .bool op]) (.agg #[.string lo', .string hi', .bool op'])).run Try.prog w = .ok (.bool (lo.toList == lo'.toList && (hi.toList == hi'.toList && op == op'))) w := by
  rw [run_eql_struct, show (10000 : Nat) = 9999 + 1 from rfl]
  go_simp
  cases h1 : (lo.toList == lo'.toList) <;> cases h2 : (hi.toList == hi'.toList) <;> cases op <;> cases op' <;> simp_all
set_option maxHeartbeats 6400000 in
set_option maxRecDepth 100000 in
theorem ispart_any (p q : Pm) (w : World) (hp : p.In w) (hq : q.In w) :
    Calls Try.prog 40 #[.agg #[.int .i64 p.kind, .string p.lo, .string p.hi, .bool p.op, .int .i64 p.cnt, .int .u64 p.s0, .int .u64 p.s1, .slice p.ea p.el p.ec], .agg #[.int .i64 q.kind, .string q.lo, .string q.hi, .bool q.op, .int .i64 q.cnt, .int .u64 q.s0, .int .u64 q.s1, .slice q.ea q.el q.ec]] w fun e w' => SaysS (SamePm p q) e ∧ Below w.heap.size w w' := by
  obtain ⟨kind, lo, hi, op, cnt, s0, s1, ea, el, ec, T⟩ := p
  obtain ⟨kind2, lo2, hi2, op2, cnt2, s02, s12, fa, el2, fc, U⟩ := q
  dsimp only
  by_cases hk : kind = kind2
  · subst hk
    by_cases hr : lo = lo2 ∧ hi = hi2 ∧ op = op2
    · obtain ⟨rfl, rfl, rfl⟩ := hr
      have RQ : ∀ W, (binOp .eql 43 (.agg #[.string lo, .string hi, .bool op]) (.agg #[.string lo, .string hi, .bool op])).run Try.prog W = .ok (.bool true) W := fun W => by rw [rg_runF]; simp
      by_cases ht : cnt = cnt2 ∧ s0 = s02 ∧ s1 = s12
      · obtain ⟨rfl, rfl, rfl⟩ := ht
        have TQ := fun W => tal_same cnt s0 s1 W
        have K1 := aside (blk_on (heap_alloc_new w (.cells #[.int .i64 kind, .string lo, .string hi, .bool op, .int .i64 cnt, .int .u64 s0, .int .u64 s1, .slice ea el ec] 51)) (bnew _ (.cells #[.int .i64 kind, .string lo, .string hi, .bool op, .int .i64 cnt, .int .u64 s0, .int .u64 s1, .slice fa el2 fc] 51)))
        have K2 := aside (heap_alloc_new (w.alloc (.cells #[.int .i64 kind, .string lo, .string hi, .bool op, .int .i64 cnt, .int .u64 s0, .int .u64 s1, .slice ea el ec] 51)) (.cells #[.int .i64 kind, .string lo, .string hi, .bool op, .int .i64 cnt, .int .u64 s0, .int .u64 s1, .slice fa el2 fc] 51))
        simp only [World.size_alloc] at K2
        have BX := aside (bthen (bnew w (.cells #[.int .i64 kind, .string lo, .string hi, .bool op, .int .i64 cnt, .int .u64 s0, .int .u64 s1, .slice ea el ec] 51)) (bnew _ (.cells #[.int .i64 kind, .string lo, .string hi, .bool op, .int .i64 cnt, .int .u64 s0, .int .u64 s1, .slice fa el2 fc] 51)))
        have HI1 := aside (show EntsIn _ ea el ec T from EntsIn.keep hp (bthen (bnew w (.cells #[.int .i64 kind, .string lo, .string hi, .bool op, .int .i64 cnt, .int .u64 s0, .int .u64 s1, .slice ea el ec] 51)) (bnew _ (.cells #[.int .i64 kind, .string lo, .string hi, .bool op, .int .i64 cnt, .int .u64 s0, .int .u64 s1, .slice fa el2 fc] 51))))
        have HI2 := aside (show EntsIn _ fa el2 fc U from EntsIn.keep hq (bthen (bnew w (.cells #[.int .i64 kind, .string lo, .string hi, .bool op, .int .i64 cnt, .int .u64 s0, .int .u64 s1, .slice ea el ec] 51)) (bnew _ (.cells #[.int .i64 kind, .string lo, .string hi, .bool op, .int .i64 cnt, .int .u64 s0, .int .u64 s1, .slice fa el2 fc] 51))))
        clear hp hq
        have CE := aside (eqE_any ea el ec T fa el2 fc U _ HI1.out HI2.out)
        go_enter Try.func40, Try.ntmps40
        go_upto_region 1 with fail
        obtain ⟨g1, hg1⟩ : ∃ g, w.heap.size = g := ⟨_, rfl⟩
        obtain ⟨g2, hg2⟩ : ∃ g, g1 + 1 = g := ⟨_, rfl⟩
        rw [hg1, hg2] at K2
        rw [hg1] at K1
        rw [hg1, hg2]
        clear hg1 hg2
        generalize (w.alloc (.cells #[.int .i64 kind, .string lo, .string hi, .bool op, .int .i64 cnt, .int .u64 s0, .int .u64 s1, .slice ea el ec] 51)).alloc (.cells #[.int .i64 kind, .string lo, .string hi, .bool op, .int .i64 cnt, .int .u64 s0, .int .u64 s1, .slice fa el2 fc] 51) = X at K1 K2 BX HI1 HI2 CE ⊢
        obtain ⟨c0, c1, c2, c3, c4, c5, c6, c7⟩ := oct8 K1.out
        obtain ⟨d0, d1, d2, d3, d4, d5, d6, d7⟩ := oct8 K2.out
        go_wp2_with fail
        refine CE.out.mono ?_
        rintro e w9 ⟨h9, b9⟩
        have BF := aside (bthen BX.out b9)
        rcases h9 with ⟨h9, rfl⟩ | ⟨h9, rfl⟩
        · have HF := aside (show SamePm ⟨kind, lo, hi, op, cnt, s0, s1, ea, el, ec, T⟩ ⟨kind, lo, hi, op, cnt, s0, s1, fa, el2, fc, U⟩ from ⟨rfl, rfl, rfl, rfl, rfl, rfl, rfl, h9.1, h9.2⟩)
          go_wp2_with fail
          go_ret
          exact ⟨.inl ⟨HF.out, rfl⟩, BF.out⟩
        · have HNS := aside (show ¬ SamePm ⟨kind, lo, hi, op, cnt, s0, s1, ea, el, ec, T⟩ ⟨kind, lo, hi, op, cnt, s0, s1, fa, el2, fc, U⟩ from fun this => h9 ⟨this.2.2.2.2.2.2.2.1, this.2.2.2.2.2.2.2.2⟩)
          go_wp2_with fail
          go_ret
          exact ⟨.inr ⟨HNS.out, rfl⟩, BF.out⟩
      · have K1 := aside (blk_on (heap_alloc_new w (.cells #[.int .i64 kind, .string lo, .string hi, .bool op, .int .i64 cnt, .int .u64 s0, .int .u64 s1, .slice ea el ec] 51)) (bnew _ (.cells #[.int .i64 kind, .string lo, .string hi, .bool op, .int .i64 cnt2, .int .u64 s02, .int .u64 s12, .slice fa el2 fc] 51)))
        have K2 := aside (heap_alloc_new (w.alloc (.cells #[.int .i64 kind, .string lo, .string hi, .bool op, .int .i64 cnt, .int .u64 s0, .int .u64 s1, .slice ea el ec] 51)) (.cells #[.int .i64 kind, .string lo, .string hi, .bool op, .int .i64 cnt2, .int .u64 s02, .int .u64 s12, .slice fa el2 fc] 51))
        simp only [World.size_alloc] at K2
        have BX := aside (bthen (bnew w (.cells #[.int .i64 kind, .string lo, .string hi, .bool op, .int .i64 cnt, .int .u64 s0, .int .u64 s1, .slice ea el ec] 51)) (bnew _ (.cells #[.int .i64 kind, .string lo, .string hi, .bool op, .int .i64 cnt2, .int .u64 s02, .int .u64 s12, .slice fa el2 fc] 51)))
        have HI1 := aside (show EntsIn _ ea el ec T from EntsIn.keep hp (bthen (bnew w (.cells #[.int .i64 kind, .string lo, .string hi, .bool op, .int .i64 cnt, .int .u64 s0, .int .u64 s1, .slice ea el ec] 51)) (bnew _ (.cells #[.int .i64 kind, .string lo, .string hi, .bool op, .int .i64 cnt2, .int .u64 s02, .int .u64 s12, .slice fa el2 fc] 51))))
        have HI2 := aside (show EntsIn _ fa el2 fc U from EntsIn.keep hq (bthen (bnew w (.cells #[.int .i64 kind, .string lo, .string hi, .bool op, .int .i64 cnt, .int .u64 s0, .int .u64 s1, .slice ea el ec] 51)) (bnew _ (.cells #[.int .i64 kind, .string lo, .string hi, .bool op, .int .i64 cnt2, .int .u64 s02, .int .u64 s12, .slice fa el2 fc] 51))))
        clear hp hq
        have HNS := aside (show ¬ SamePm ⟨kind, lo, hi, op, cnt, s0, s1, ea, el, ec, T⟩ ⟨kind, lo, hi, op, cnt2, s02, s12, fa, el2, fc, U⟩ from fun this => ht ⟨this.2.2.2.2.1, this.2.2.2.2.2.1, this.2.2.2.2.2.2.1⟩)
        have TQ : ∀ W, (binOp .eql 48 (.agg #[.int .i64 cnt, .int .u64 s0, .int .u64 s1]) (.agg #[.int .i64 cnt2, .int .u64 s02, .int .u64 s12])).run Try.prog W = .ok (.bool false) W := fun W => by
          rw [tal_run]
          have : (cnt == cnt2 && (s0 == s02 && s1 == s12)) = false := by
            rw [Bool.eq_false_iff]
            intro h
            simp only [Bool.and_eq_true, beq_iff_eq] at h
            exact ht h
          rw [this]
        go_enter Try.func40, Try.ntmps40
        go_upto_region 1 with fail
        obtain ⟨g1, hg1⟩ : ∃ g, w.heap.size = g := ⟨_, rfl⟩
        obtain ⟨g2, hg2⟩ : ∃ g, g1 + 1 = g := ⟨_, rfl⟩
        rw [hg1, hg2] at K2
        rw [hg1] at K1
        rw [hg1, hg2]
        clear hg1 hg2
        generalize (w.alloc (.cells #[.int .i64 kind, .string lo, .string hi, .bool op, .int .i64 cnt, .int .u64 s0, .int .u64 s1, .slice ea el ec] 51)).alloc (.cells #[.int .i64 kind, .string lo, .string hi, .bool op, .int .i64 cnt2, .int .u64 s02, .int .u64 s12, .slice fa el2 fc] 51) = X at K1 K2 BX HI1 HI2 ⊢
        obtain ⟨c0, c1, c2, c3, c4, c5, c6, c7⟩ := oct8 K1.out
        obtain ⟨d0, d1, d2, d3, d4, d5, d6, d7⟩ := oct8 K2.out
        go_wp2_with fail
        go_ret
        exact ⟨.inr ⟨HNS.out, rfl⟩, BX.out⟩
    · have K1 := aside (blk_on (heap_alloc_new w (.cells #[.int .i64 kind, .string lo, .string hi, .bool op, .int .i64 cnt, .int .u64 s0, .int .u64 s1, .slice ea el ec] 51)) (bnew _ (.cells #[.int .i64 kind, .string lo2, .string hi2, .bool op2, .int .i64 cnt2, .int .u64 s02, .int .u64 s12, .slice fa el2 fc] 51)))
      have K2 := aside (heap_alloc_new (w.alloc (.cells #[.int .i64 kind, .string lo, .string hi, .bool op, .int .i64 cnt, .int .u64 s0, .int .u64 s1, .slice ea el ec] 51)) (.cells #[.int .i64 kind, .string lo2, .string hi2, .bool op2, .int .i64 cnt2, .int .u64 s02, .int .u64 s12, .slice fa el2 fc] 51))
      simp only [World.size_alloc] at K2
      have BX := aside (bthen (bnew w (.cells #[.int .i64 kind, .string lo, .string hi, .bool op, .int .i64 cnt, .int .u64 s0, .int .u64 s1, .slice ea el ec] 51)) (bnew _ (.cells #[.int .i64 kind, .string lo2, .string hi2, .bool op2, .int .i64 cnt2, .int .u64 s02, .int .u64 s12, .slice fa el2 fc] 51)))
      have HI1 := aside (show EntsIn _ ea el ec T from EntsIn.keep hp (bthen (bnew w (.cells #[.int .i64 kind, .string lo, .string hi, .bool op, .int .i64 cnt, .int .u64 s0, .int .u64 s1, .slice ea el ec] 51)) (bnew _ (.cells #[.int .i64 kind, .string lo2, .string hi2, .bool op2, .int .i64 cnt2, .int .u64 s02, .int .u64 s12, .slice fa el2 fc] 51))))
      have HI2 := aside (show EntsIn _ fa el2 fc U from EntsIn.keep hq (bthen (bnew w (.cells #[.int .i64 kind, .string lo, .string hi, .bool op, .int .i64 cnt, .int .u64 s0, .int .u64 s1, .slice ea el ec] 51)) (bnew _ (.cells #[.int .i64 kind, .string lo2, .string hi2, .bool op2, .int .i64 cnt2, .int .u64 s02, .int .u64 s12, .slice fa el2 fc] 51))))
      clear hp hq
      have HNS := aside (show ¬ SamePm ⟨kind, lo, hi, op, cnt, s0, s1, ea, el, ec, T⟩ ⟨kind, lo2, hi2, op2, cnt2, s02, s12, fa, el2, fc, U⟩ from fun this => hr ⟨this.2.1, this.2.2.1, this.2.2.2.1⟩)
      have RQ : ∀ W, (binOp .eql 43 (.agg #[.string lo, .string hi, .bool op]) (.agg #[.string lo2, .string hi2, .bool op2])).run Try.prog W = .ok (.bool false) W := fun W => by
        rw [rg_runF]
        have : (lo.toList == lo2.toList && (hi.toList == hi2.toList && op == op2)) = false := by
          rw [Bool.eq_false_iff]
          intro h
          simp only [Bool.and_eq_true, beq_iff_eq] at h
          exact hr ⟨toList_injT h.1, toList_injT h.2.1, h.2.2⟩
        rw [this]
      go_enter Try.func40, Try.ntmps40
      go_upto_region 1 with fail
      obtain ⟨g1, hg1⟩ : ∃ g, w.heap.size = g := ⟨_, rfl⟩
      obtain ⟨g2, hg2⟩ : ∃ g, g1 + 1 = g := ⟨_, rfl⟩
      rw [hg1, hg2] at K2
      rw [hg1] at K1
      rw [hg1, hg2]
      clear hg1 hg2
      generalize (w.alloc (.cells #[.int .i64 kind, .string lo, .string hi, .bool op, .int .i64 cnt, .int .u64 s0, .int .u64 s1, .slice ea el ec] 51)).alloc (.cells #[.int .i64 kind, .string lo2, .string hi2, .bool op2, .int .i64 cnt2, .int .u64 s02, .int .u64 s12, .slice fa el2 fc] 51) = X at K1 K2 BX HI1 HI2 ⊢
      obtain ⟨c0, c1, c2, c3, c4, c5, c6, c7⟩ := oct8 K1.out
      obtain ⟨d0, d1, d2, d3, d4, d5, d6, d7⟩ := oct8 K2.out
      go_wp2_with fail
      go_ret
      exact ⟨.inr ⟨HNS.out, rfl⟩, BX.out⟩
  · have K1 := aside (blk_on (heap_alloc_new w (.cells #[.int .i64 kind, .string lo, .string hi, .bool op, .int .i64 cnt, .int .u64 s0, .int .u64 s1, .slice ea el ec] 51)) (bnew _ (.cells #[.int .i64 kind2, .string lo2, .string hi2, .bool op2, .int .i64 cnt2, .int .u64 s02, .int .u64 s12, .slice fa el2 fc] 51)))
    have K2 := aside (heap_alloc_new (w.alloc (.cells #[.int .i64 kind, .string lo, .string hi, .bool op, .int .i64 cnt, .int .u64 s0, .int .u64 s1, .slice ea el ec] 51)) (.cells #[.int .i64 kind2, .string lo2, .string hi2, .bool op2, .int .i64 cnt2, .int .u64 s02, .int .u64 s12, .slice fa el2 fc] 51))
    simp only [World.size_alloc] at K2
    have BX := aside (bthen (bnew w (.cells #[.int .i64 kind, .string lo, .string hi, .bool op, .int .i64 cnt, .int .u64 s0, .int .u64 s1, .slice ea el ec] 51)) (bnew _ (.cells #[.int .i64 kind2, .string lo2, .string hi2, .bool op2, .int .i64 cnt2, .int .u64 s02, .int .u64 s12, .slice fa el2 fc] 51)))
    have HI1 := aside (show EntsIn _ ea el ec T from EntsIn.keep hp (bthen (bnew w (.cells #[.int .i64 kind, .string lo, .string hi, .bool op, .int .i64 cnt, .int .u64 s0, .int .u64 s1, .slice ea el ec] 51)) (bnew _ (.cells #[.int .i64 kind2, .string lo2, .string hi2, .bool op2, .int .i64 cnt2, .int .u64 s02, .int .u64 s12, .slice fa el2 fc] 51))))
    have HI2 := aside (show EntsIn _ fa el2 fc U from EntsIn.keep hq (bthen (bnew w (.cells #[.int .i64 kind, .string lo, .string hi, .bool op, .int .i64 cnt, .int .u64 s0, .int .u64 s1, .slice ea el ec] 51)) (bnew _ (.cells #[.int .i64 kind2, .string lo2, .string hi2, .bool op2, .int .i64 cnt2, .int .u64 s02, .int .u64 s12, .slice fa el2 fc] 51))))
    clear hp hq
    have HNS := aside (show ¬ SamePm ⟨kind, lo, hi, op, cnt, s0, s1, ea, el, ec, T⟩ ⟨kind2, lo2, hi2, op2, cnt2, s02, s12, fa, el2, fc, U⟩ from fun this => hk this.1)
    have hk2 : (kind == kind2) = false := by simpa using hk
    have hk3 : (kind != kind2) = true := by simpa using hk
    go_enter Try.func40, Try.ntmps40
    go_upto_region 1 with fail
    obtain ⟨g1, hg1⟩ : ∃ g, w.heap.size = g := ⟨_, rfl⟩
    obtain ⟨g2, hg2⟩ : ∃ g, g1 + 1 = g := ⟨_, rfl⟩
    rw [hg1, hg2] at K2
    rw [hg1] at K1
    rw [hg1, hg2]
    clear hg1 hg2
    generalize (w.alloc (.cells #[.int .i64 kind, .string lo, .string hi, .bool op, .int .i64 cnt, .int .u64 s0, .int .u64 s1, .slice ea el ec] 51)).alloc (.cells #[.int .i64 kind2, .string lo2, .string hi2, .bool op2, .int .i64 cnt2, .int .u64 s02, .int .u64 s12, .slice fa el2 fc] 51) = X at K1 K2 BX HI1 HI2 ⊢
    obtain ⟨c0, c1, c2, c3, c4, c5, c6, c7⟩ := oct8 K1.out
    obtain ⟨d0, d1, d2, d3, d4, d5, d6, d7⟩ := oct8 K2.out
    go_wp2_with fail
    go_ret
    exact ⟨.inr ⟨HNS.out, rfl⟩, BX.out⟩
end Go.Proofs.Ytoabncoigleiaaa
namespace Go.Proofs.Ytoabncoigleiaaa
open Go.RowKit
set_option linter.unusedVariables false
set_option maxHeartbeats 6400000 in
set_option maxRecDepth 100000 in
theorem eqPs_any (a : Option Addr) (len ca : Nat) (P : Nat → Pm) (b : Option Addr) (len2 cb : Nat) (Q : Nat → Pm) (w : World) (hA : PartsIn w a len ca P) (hB : PartsIn w b len2 cb Q) :
    Calls Try.prog 39 #[.slice a len ca, .slice b len2 cb, .func (.func 40) #[] #[]] w fun e w' => SaysS (PsSame P len Q len2) e ∧ Below w.heap.size w w' := by
  by_cases hll : len = len2
  · subst hll
    have HA := aside hA
    have HQ := aside hB
    have hmx : (len : Int) ≤ 9223372036854775807 := by have h1 := hA.1; have h2 := hA.2.1; unfold maxLen at h2; omega
    clear hA hB
    go_enter Try.func39, Try.ntmps39
    go_wp2
    go_loopw [17] (fun i wr => ∃ j : Nat, i = .int .i64 (j : Int) ∧ j ≤ len ∧ Hid (∀ i, i < j → SamePm (P i) (Q i)) ∧ Hid (Below w.heap.size w wr)) (fun i _ => len - (intOf i).toNat)
    case atStart => exact ⟨0, rfl, Nat.zero_le _, (fun i hi => by omega), Below.refl _ _⟩
    case round =>
      obtain ⟨j, rfl, hj, HS, HB⟩ := hrel
      by_cases hlt : (j : Int) < (len : Int)
      · have hj0 : (0 : Int) ≤ (j : Int) := by omega
        rcases (HA.out.keep HB.out).2.2 with h0 | ⟨b1, off1, rfl, hb1, hc1⟩
        · omega
        rcases (HQ.out.keep HB.out).2.2 with h0 | ⟨b2, off2, rfl, hb2, hc2⟩
        · omega
        obtain ⟨hat1, hin1⟩ := hc1 j (by omega)
        obtain ⟨hat2, hin2⟩ := hc2 j (by omega)
        rcases hp : P j with ⟨kind, lo, hi, op, cnt, s0, s1, ea, el, ec, T⟩
        rcases hq : Q j with ⟨kind2, lo2, hi2, op2, cnt2, s02, s12, fa, el2, fc, U⟩
        rw [hp] at hat1 hin1
        rw [hq] at hat2 hin2
        have HPJ := aside hp
        have HQJ := aside hq
        clear hp hq hc1 hc2
        obtain ⟨c0, c1, c2, c3, c4, c5, c6, c7⟩ := hat1
        obtain ⟨d0, d1, d2, d3, d4, d5, d6, d7⟩ := hat2
        dsimp only at c0 c1 c2 c3 c4 c5 c6 c7 d0 d1 d2 d3 d4 d5 d6 d7
        have HI1 := aside hin1
        have HI2 := aside hin2
        clear hin1 hin2
        go_upto_region 6 with fail
        have K1 := heap_alloc_new wr (.cells #[.int .i64 kind, .string lo, .string hi, .bool op, .int .i64 cnt, .int .u64 s0, .int .u64 s1, .slice ea el ec] 51)
        have BA := bnew wr (.cells #[.int .i64 kind, .string lo, .string hi, .bool op, .int .i64 cnt, .int .u64 s0, .int .u64 s1, .slice ea el ec] 51)
        replace d0 := cell_in d0 BA
        replace d1 := cell_in d1 BA
        replace d2 := cell_in d2 BA
        replace d3 := cell_in d3 BA
        replace d4 := cell_in d4 BA
        replace d5 := cell_in d5 BA
        replace d6 := cell_in d6 BA
        replace d7 := cell_in d7 BA
        obtain ⟨g1, hg1⟩ : ∃ g, wr.heap.size = g := ⟨_, rfl⟩
        rw [hg1] at K1 ⊢
        clear c0 c1 c2 c3 c4 c5 c6 c7 hg1
        generalize wr.alloc (.cells #[.int .i64 kind, .string lo, .string hi, .bool op, .int .i64 cnt, .int .u64 s0, .int .u64 s1, .slice ea el ec] 51) = X1 at K1 BA d0 d1 d2 d3 d4 d5 d6 d7 ⊢
        go_upto_region 7 with fail
        have K2 := heap_alloc_new X1 (.cells #[.int .i64 kind2, .string lo2, .string hi2, .bool op2, .int .i64 cnt2, .int .u64 s02, .int .u64 s12, .slice fa el2 fc] 51)
        have BB := bnew X1 (.cells #[.int .i64 kind2, .string lo2, .string hi2, .bool op2, .int .i64 cnt2, .int .u64 s02, .int .u64 s12, .slice fa el2 fc] 51)
        replace K1 := blk_on K1 BB
        have BX2 := aside (bthen BA BB)
        obtain ⟨g2, hg2⟩ : ∃ g, X1.heap.size = g := ⟨_, rfl⟩
        rw [hg2] at K2 ⊢
        clear d0 d1 d2 d3 d4 d5 d6 d7 hg2 BA
        generalize X1.alloc (.cells #[.int .i64 kind2, .string lo2, .string hi2, .bool op2, .int .i64 cnt2, .int .u64 s02, .int .u64 s12, .slice fa el2 fc] 51) = X2 at K1 K2 BB BX2 ⊢
        have BW2 := aside (HB.out.trans (BX2.out.mono HB.out.size))
        have CE := aside (ispart_any _ _ X2 (HI1.out.keep BX2.out) (HI2.out.keep BX2.out))
        obtain ⟨c0, c1, c2, c3, c4, c5, c6, c7⟩ := oct8 K1
        obtain ⟨d0, d1, d2, d3, d4, d5, d6, d7⟩ := oct8 K2
        clear K1 K2 BB BX2 HI1 HI2 HB
        go_wp2_with fail
        refine CE.out.mono ?_
        rintro e w9 ⟨h9, b9⟩
        have BF := aside (BW2.out.trans (b9.mono BW2.out.size))
        clear CE b9 BW2
        rcases h9 with ⟨h9, rfl⟩ | ⟨h9, rfl⟩
        · have HSJ := aside (show ∀ i, i < j + 1 → SamePm (P i) (Q i) from fun i hi => by
            by_cases e : i < j
            · exact HS.out i e
            · obtain rfl : i = j := by omega
              rw [HPJ.out, HQJ.out]
              exact h9)
          go_wp2
          go_roundw
          case rel => exact ⟨j + 1, by go_num, by omega, HSJ.out, BF.out⟩
          case measure => simp [intOf]; omega
        · have HNS := aside (show ¬ PsSame P len Q len from fun h => by
            have := h.2 j (by omega)
            rw [HPJ.out, HQJ.out] at this
            exact h9 this)
          go_wp2
          go_ret
          exact ⟨.inr ⟨HNS.out, rfl⟩, BF.out⟩
      · have HF := aside (show PsSame P len Q len from ⟨rfl, fun i hi => HS.out i (by omega)⟩)
        go_wp2
        go_ret
        exact ⟨.inl ⟨HF.out, rfl⟩, HB.out⟩
  · have hl2 : (len == len2) = false := by simpa using hll
    have hl3 : ((len : Int) == (len2 : Int)) = false := by simp; omega
    have hl4 : (len != len2) = true := by simpa using hll
    have hl5 : ((len : Int) != (len2 : Int)) = true := by simp; omega
    go_enter Try.func39, Try.ntmps39
    go_wp2
    go_ret
    exact ⟨.inr ⟨fun h => hll h.1, rfl⟩, Below.refl _ _⟩
end Go.Proofs.Ytoabncoigleiaaa
namespace Go.Proofs.Ytoabncoigleiaaa
open Go.RowKit
set_option linter.unusedVariables false
set_option maxHeartbeats 6400000 in
set_option maxRecDepth 100000 in
theorem sameF_any (fr tz o l n tn fr2 tz2 o2 l2 n2 tn2 : Int) (a : Option Addr) (len ca : Nat) (P : Nat → Pm) (b : Option Addr) (len2 cb : Nat) (Q : Nat → Pm) (w : World) (hA : PartsIn w a len ca P) (hB : PartsIn w b len2 cb Q) :
    Calls Try.prog 21 #[.agg #[.int .i64 fr, .int .i64 tz, .int .i64 o, .int .i64 l, .int .i64 n, .int .i64 tn, .slice a len ca], .agg #[.int .i64 fr2, .int .i64 tz2, .int .i64 o2, .int .i64 l2, .int .i64 n2, .int .i64 tn2, .slice b len2 cb]] w fun e w' => SaysS (FrSame fr tz o l n tn fr2 tz2 o2 l2 n2 tn2 P len Q len2) e ∧ Below w.heap.size w w' := by
  have BX := aside (bthen (bnew w (.cells #[.int .i64 fr, .int .i64 tz, .int .i64 o, .int .i64 l, .int .i64 n, .int .i64 tn, .slice a len ca] 26)) (bnew _ (.cells #[.int .i64 fr2, .int .i64 tz2, .int .i64 o2, .int .i64 l2, .int .i64 n2, .int .i64 tn2, .slice b len2 cb] 26)))
  have C := aside (eqPs_any a len ca P b len2 cb Q _ (hA.keep BX.out) (hB.keep BX.out))
  clear hA hB
  by_cases h1 : fr = fr2
  · subst h1
    by_cases h2 : tz = tz2
    · subst h2
      by_cases h3 : o = o2 ∧ l = l2 ∧ n = n2
      · obtain ⟨rfl, rfl, rfl⟩ := h3
        have NQ := fun W => name_same o l n W
        by_cases h4 : tn = tn2
        · subst h4
          go_enter Try.func21, Try.ntmps21
          go_wp2_with fail
          refine C.out.mono ?_
          rintro e w1 ⟨⟨hp, rfl⟩ | ⟨hp, rfl⟩, b1⟩
          · have B1 := aside (bthen BX.out b1)
            have HP := aside hp
            clear b1 C BX hp
            go_wp2
            go_ret
            exact ⟨.inl ⟨⟨⟨rfl, rfl, rfl, rfl, rfl, rfl⟩, HP.out⟩, rfl⟩, B1.out⟩
          · have B1 := aside (bthen BX.out b1)
            have HP := aside hp
            clear b1 C BX hp
            go_wp2
            go_ret
            exact ⟨.inr ⟨fun h => HP.out h.2, rfl⟩, B1.out⟩
        · have h4b : (tn == tn2) = false := by simpa using h4
          have HN := aside h4
          clear h4 C
          go_enter Try.func21, Try.ntmps21
          go_wp2
          go_ret
          exact ⟨.inr ⟨fun h => HN.out h.1.2.2.2.2.2, rfl⟩, BX.out⟩
      · have NQ : ∀ W, (binOp .eql 23 (.agg #[.int .i64 o, .int .i64 l, .int .i64 n]) (.agg #[.int .i64 o2, .int .i64 l2, .int .i64 n2])).run Try.prog W = .ok (.bool false) W := fun W => by
          rw [name_run]
          have : (o == o2 && (l == l2 && n == n2)) = false := by
            rw [Bool.eq_false_iff]
            intro h
            simp only [Bool.and_eq_true, beq_iff_eq] at h
            exact h3 h
          rw [this]
        have HN := aside h3
        clear h3 C
        go_enter Try.func21, Try.ntmps21
        go_wp2
        go_ret
        exact ⟨.inr ⟨fun h => HN.out ⟨h.1.2.2.1, h.1.2.2.2.1, h.1.2.2.2.2.1⟩, rfl⟩, BX.out⟩
    · have h4b : (tz == tz2) = false := by simpa using h2
      have HN := aside h2
      clear h2 C
      go_enter Try.func21, Try.ntmps21
      go_wp2
      go_ret
      exact ⟨.inr ⟨fun h => HN.out h.1.2.1, rfl⟩, BX.out⟩
  · have h4b : (fr == fr2) = false := by simpa using h1
    have HN := aside h1
    clear h1 C
    go_enter Try.func21, Try.ntmps21
    go_wp2
    go_ret
    exact ⟨.inr ⟨fun h => HN.out h.1.1, rfl⟩, BX.out⟩
end Go.Proofs.Ytoabncoigleiaaa
namespace Go.Proofs.Ytoabncoigleiaaa
open Go.RowKit Go.Shelf
attribute [local go_sem] Oper.semAt_some
/-- The ranges T 0, T 1 .. lie one behind the other, three cells each, below n₀. -/
def RgsIn (n₀ : Nat) (w : World) (a : Option Addr) (len cap : Nat) (T : Nat → Rg) : Prop :=
  len ≤ cap ∧ len * 40 ≤ 281474976710656 ∧ (len = 0 ∨ ∃ blk off, a = some ⟨blk, off, none⟩ ∧ blk < n₀ ∧ ∀ i, i < len →
    (w.cell? ⟨blk, off + i * 3, none⟩ = some (.string (T i).lo) ∧ w.cell? ⟨blk, off + i * 3 + 1, none⟩ = some (.string (T i).hi) ∧ w.cell? ⟨blk, off + i * 3 + 2, none⟩ = some (.bool (T i).op)))
theorem RgsIn.below {n₀ : Nat} {A B : World} (h : Below n₀ A B) {a : Option Addr} {len cap : Nat} {T : Nat → Rg} (hr : RgsIn n₀ A a len cap T) : RgsIn n₀ B a len cap T := by
  obtain ⟨h1, h2, h3⟩ := hr
  refine ⟨h1, h2, ?_⟩
  rcases h3 with h3 | ⟨blk, off, e, hb, hc⟩
  · exact .inl h3
  · exact .inr ⟨blk, off, e, hb, fun i hi => ⟨(h.cell (p := ⟨blk, off + i * 3, none⟩) hb).trans (hc i hi).1, (h.cell (p := ⟨blk, off + i * 3 + 1, none⟩) hb).trans (hc i hi).2.1, (h.cell (p := ⟨blk, off + i * 3 + 2, none⟩) hb).trans (hc i hi).2.2⟩⟩
end Go.Proofs.Ytoabncoigleiaaa
namespace Go.Proofs.Ytoabncoigleiaaa
open Go.RowKit
theorem keep {k : Nat} {w1 w2 : World} {o : Obj} (h : w1.heap[k]? = some o) (b : Below w1.heap.size w1 w2) : w2.heap[k]? = some o :=
  (b.block k (Array.getElem?_eq_some_iff.1 h).1).trans h
end Go.Proofs.Ytoabncoigleiaaa
namespace Go.Proofs.Ytoabncoigleiaaa
open Go.RowKit
end Go.Proofs.Ytoabncoigleiaaa
namespace Go.Proofs.Ytoabncoigleiaaa
open Go.RowKit Go.Shelf
attribute [local go_sem] Oper.semAt_some
theorem RgsIn.up {n₀ n₁ : Nat} {A B : World} (h : Below n₀ A B) (hn : n₀ ≤ n₁) {a : Option Addr} {len cap : Nat} {T : Nat → Rg} (hr : RgsIn n₀ A a len cap T) : RgsIn n₁ B a len cap T := by
  obtain ⟨h1, h2, h3⟩ := hr.below h
  refine ⟨h1, h2, ?_⟩
  rcases h3 with h3 | ⟨blk, off, e, hb, hc⟩
  · exact .inl h3
  · exact .inr ⟨blk, off, e, Nat.lt_of_lt_of_le hb hn, hc⟩
end Go.Proofs.Ytoabncoigleiaaa

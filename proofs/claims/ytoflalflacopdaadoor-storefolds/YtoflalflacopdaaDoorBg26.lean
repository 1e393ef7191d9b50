/-
  Tile, the code's: it returns what the plain function gives, and writes nothing that was there.
-/
import Derived.Test.YtoflalflacopdaaDoorBg25
import Derived.Stop.RegionWithIn
import Derived.Deep.RegionHeld3
namespace Go.Proofs.YtoflalflacopdaaDoor
open Go.RowKit Go.Shelf
attribute [local go_sem] Oper.semAt_some
/-- Does the second of two neighbours begin where the first one ends? -/
def joinP (x : Rg × Rg) : Bool := x.2.lo.toList == x.1.hi.toList
/-- Do two ranges end alike? -/
def endAl (a b : Rg) : Bool := (a.op && b.op) || (!a.op && (!b.op && (a.hi.toList == b.hi.toList)))
/-- Do the first n ranges tile another one? -/
def tiles (T : Nat → Rg) (n : Nat) (r : Rg) : Bool := decide (0 < n) && (rises T n && ((upto (fun j => (T j, T (j + 1))) (n - 1)).all joinP && (((T 0).lo.toList == r.lo.toList) && endAl (T (n - 1)) r)))
set_option maxHeartbeats 800000 in
theorem endAlike_any (alo ahi blo bhi : ByteArray) (aop bop : Bool) (w : World) :
    Calls Tryd.prog 44 #[.agg #[.string alo, .string ahi, .bool aop], .agg #[.string blo, .string bhi, .bool bop]] w fun e w' => e = .returned (.bool (endAl ⟨alo, ahi, aop⟩ ⟨blo, bhi, bop⟩)) ∧ Below w.heap.size w w' := by
  cases aop <;> cases bop <;> cases h : (ahi.toList == bhi.toList)
  all_goals
    go_enter Tryd.func44, Tryd.ntmps44
    go_wp2
    go_ret
    exact ⟨ret_bool (by simp only [endAl, h]; rfl), bthen (bnew w _) (bnew _ _)⟩
theorem endAlike_at {alo ahi blo bhi : ByteArray} {aop bop q : Bool} (h : endAl ⟨alo, ahi, aop⟩ ⟨blo, bhi, bop⟩ = q) (w : World) :
    Calls Tryd.prog 44 #[.agg #[.string alo, .string ahi, .bool aop], .agg #[.string blo, .string bhi, .bool bop]] w fun e w' => e = .returned (.bool q) ∧ Below w.heap.size w w' := by
  subst h; exact endAlike_any alo ahi blo bhi aop bop w
theorem joins_no {T : Nat → Rg} {n k : Nat} {r : Rg} (hk : k ≤ n - 1) (h : (upto (fun j => (T j, T (j + 1))) k).all joinP = false) : tiles T n r = false := by
  have : (upto (fun j => (T j, T (j + 1))) (n - 1)).all joinP = false := by
    rw [Bool.eq_false_iff] at h ⊢
    intro h2
    apply h
    rw [List.all_eq_true] at h2 ⊢
    intro x hx
    apply h2
    simp only [upto, List.mem_map, List.mem_range] at hx ⊢
    obtain ⟨j, hj, e⟩ := hx
    exact ⟨j, by omega, e⟩
  simp [tiles, this]
set_option maxRecDepth 100000 in
set_option maxHeartbeats 1000000 in
theorem tile_none (k : Nat) (a : Option Addr) (cap : Nat) (T : Nat → Rg) (rlo rhi : ByteArray) (rop : Bool) (w : World) :
    CallsIn Fence.wide k Tryd.prog 12 #[.slice a 0 cap, .agg #[.string rlo, .string rhi, .bool rop]] w fun e w' => e = .returned (.bool (tiles T 0 ⟨rlo, rhi, rop⟩)) ∧ Below w.heap.size w w' := by
  refine callsIn_of_wp_marks Tryd.func12 rfl trivial ?_ rfl
  simp only [Tryd.ntmps12, List.size_toArray, List.length_cons, List.length_nil, Nat.reduceAdd, Nat.reduceSub, Array.replicate_succ, Array.replicate_zero, List.push_toArray, List.append_toArray, List.nil_append, List.cons_append]
  gi_wp2_with fail
  refine ⟨trivial, ?_⟩
  gi_wp2_with fail
  have kR := heap_new (w.alloc (.cells #[.string rlo, .string rhi, .bool rop] 24)) (.cells #[.bool false] 4)
  rw [World.size_alloc] at kR
  obtain ⟨r0, r1⟩ := box1_out kR
  have b01 := bthen (bnew w (.cells #[.string rlo, .string rhi, .bool rop] 24)) (bnew _ (.cells #[.bool false] 4))
  refine ⟨.bool false, by simp [results, Tryd.f12, go_sem], rfl, b01⟩
theorem tile_keep {X X' : World} {p0 p1 p2 p3 p4 p5 p6 : Addr} {v0 v1 v2 v3 v4 v5 v6 : Value} (h : X.cell? p0 = some v0 ∧ X.cell? p1 = some v1 ∧ X.cell? p2 = some v2 ∧ X.cell? p3 = some v3 ∧ X.cell? p4 = some v4 ∧ X.cell? p5 = some v5 ∧ X.cell? p6 = some v6) (bb : Below X.heap.size X X') :
    X'.cell? p0 = some v0 ∧ X'.cell? p1 = some v1 ∧ X'.cell? p2 = some v2 ∧ X'.cell? p3 = some v3 ∧ X'.cell? p4 = some v4 ∧ X'.cell? p5 = some v5 ∧ X'.cell? p6 = some v6 := by
  obtain ⟨h0, h1, h2, h3, h4, h5, h6⟩ := h
  exact ⟨cell_on h0 bb, cell_on h1 bb, cell_on h2 bb, cell_on h3 bb, cell_on h4 bb, cell_on h5 bb, cell_on h6 bb⟩
theorem tile_set {X : World} {b k o0 o4 o5 o6 : Nat} {v0 v1 v2 v3 v4 v5 v6 v : Value} (h : X.cell? ⟨b, o0, none⟩ = some v0 ∧ X.cell? ⟨k, 0, none⟩ = some v1 ∧ X.cell? ⟨k, 1, none⟩ = some v2 ∧ X.cell? ⟨k, 2, none⟩ = some v3 ∧ X.cell? ⟨b, o4, none⟩ = some v4 ∧ X.cell? ⟨b, o5, none⟩ = some v5 ∧ X.cell? ⟨b, o6, none⟩ = some v6) (hb : b < k) :
    (X.setCell ⟨k + 1, 0, none⟩ v).cell? ⟨b, o0, none⟩ = some v0 ∧ (X.setCell ⟨k + 1, 0, none⟩ v).cell? ⟨k, 0, none⟩ = some v1 ∧ (X.setCell ⟨k + 1, 0, none⟩ v).cell? ⟨k, 1, none⟩ = some v2 ∧ (X.setCell ⟨k + 1, 0, none⟩ v).cell? ⟨k, 2, none⟩ = some v3 ∧ (X.setCell ⟨k + 1, 0, none⟩ v).cell? ⟨b, o4, none⟩ = some v4 ∧ (X.setCell ⟨k + 1, 0, none⟩ v).cell? ⟨b, o5, none⟩ = some v5 ∧ (X.setCell ⟨k + 1, 0, none⟩ v).cell? ⟨b, o6, none⟩ = some v6 := by
  obtain ⟨h0, h1, h2, h3, h4, h5, h6⟩ := h
  have f (a : Addr) (u : Value) (hu : X.cell? a = some u) (ha : k + 1 ≠ a.block) : (X.setCell ⟨k + 1, 0, none⟩ v).cell? a = some u := (World.cell?_setCell_far X ⟨k + 1, 0, none⟩ a v ha).trans hu
  exact ⟨f _ _ h0 (by simp; omega), f _ _ h1 (by simp), f _ _ h2 (by simp), f _ _ h3 (by simp), f _ _ h4 (by simp; omega), f _ _ h5 (by simp; omega), f _ _ h6 (by simp; omega)⟩
set_option maxRecDepth 100000 in
set_option maxHeartbeats 6400000 in
theorem tile_in (k : Nat) (hk3 : 3 ≤ k) (b off n cap : Nat) (T : Nat → Rg) (rlo rhi : ByteArray) (rop : Bool) (w : World) (h : RgsIn w.heap.size w (some ⟨b, off, none⟩) (n + 1) cap T) :
    CallsIn Fence.wide k Tryd.prog 12 #[.slice (some ⟨b, off, none⟩) (n + 1) cap, .agg #[.string rlo, .string rhi, .bool rop]] w fun e w' => e = .returned (.bool (tiles T (n + 1) ⟨rlo, rhi, rop⟩)) ∧ Below w.heap.size w w' := by
  have h1 : 1 ≤ k := by omega
  have H := aside h
  have hcap : (n : Int) + 1 ≤ 9223372036854775807 := by have := h.2.1; omega
  clear h
  have hz : ((n : Int) + 1 == 0) = false := by rw [beq_eq_false_iff_ne]; omega
  have b00 := bthen (bnew w (.cells #[.string rlo, .string rhi, .bool rop] 24)) (bnew _ (.cells #[.bool false] 4))
  cases hE : rises T (n + 1)
  · refine callsIn_of_wp_marks Tryd.func12 rfl trivial ?_ rfl
    simp only [Tryd.ntmps12, List.size_toArray, List.length_cons, List.length_nil, Nat.reduceAdd, Nat.reduceSub, Array.replicate_succ, Array.replicate_zero, List.push_toArray, List.append_toArray, List.nil_append, List.cons_append]
    gi_wp2
    refine ⟨trivial, ?_⟩
    refine (callsIn_wide.2 (rising_at hE _ (H.out.up b00 b00.size))).mono ?_
    rintro e w1 ⟨rfl, b1⟩
    obtain ⟨kB, kR, b01⟩ := two_new b1
    obtain ⟨r0, r1⟩ := box1_out kR
    clear b1 kB b00
    gi_wp2_with fail
    have r2 := World.cell?_setCell_same' w1 ⟨w.heap.size + 1, 0, none⟩ (.bool false) (by rw [r0]; rfl)
    refine ⟨.bool false, by simp [results, Tryd.f12, go_sem, r2], ?_, b01.setCell (p := ⟨w.heap.size + 1, 0, none⟩) (by simp) _⟩
    rw [show tiles T (n + 1) ⟨rlo, rhi, rop⟩ = false from by simp [tiles, hE]]
  · refine callsIn_of_wp_marks Tryd.func12 rfl trivial ?_ rfl
    simp only [Tryd.ntmps12, List.size_toArray, List.length_cons, List.length_nil, Nat.reduceAdd, Nat.reduceSub, Array.replicate_succ, Array.replicate_zero, List.push_toArray, List.append_toArray, List.nil_append, List.cons_append]
    gi_wp2
    refine ⟨trivial, ?_⟩
    refine (callsIn_wide.2 (rising_at hE _ (H.out.up b00 b00.size))).mono ?_
    rintro e w1 ⟨rfl, b1⟩
    obtain ⟨kB, kR, b01⟩ := two_new b1
    clear b1 b00
    gi_wp2_with fail
    refine ⟨trivial, ?_⟩
    refine (nb_in (k - 1) _ _ _ _).mono ?_
    rintro e w' ⟨rfl, rfl⟩
    gi_wp2_with fail
    have kS := heap_new w1 (.cells #[.slice (some ⟨b, off, none⟩) (n + 1) cap] 47)
    have kR0 := keepA (p := .cells #[.slice (some ⟨b, off, none⟩) (n + 1) cap] 47) kR
    have kB0 := keepA (p := .cells #[.slice (some ⟨b, off, none⟩) (n + 1) cap] 47) kB
    have b02 := bthen b01 (bnew w1 (.cells #[.slice (some ⟨b, off, none⟩) (n + 1) cap] 47))
    have hsz : (w1.alloc (.cells #[.slice (some ⟨b, off, none⟩) (n + 1) cap] 47)).heap.size = w1.heap.size + 1 := by simp
    have hs1 := lies kR
    obtain ⟨W0, hW0⟩ : ∃ W0, w1.alloc (.cells #[.slice (some ⟨b, off, none⟩) (n + 1) cap] 47) = W0 := ⟨_, rfl⟩
    rw [hW0] at kS kR0 kB0 b02 hsz ⊢
    clear hW0 kR kB
    have hRg : RgsIn (w1.heap.size + 1) W0 (some ⟨b, off, none⟩) (n + 1) cap T := H.out.up b02 (by omega)
    refine wpIn_rangeFunc_ownH rfl h1 (gf := 80) (lb := #[.pointer (some ⟨w1.heap.size, 0, none⟩)]) rfl trivial (enters_of Tryd.func80 (by kernel_rfl) rfl)
      (nb_stops (k - 1) (by omega) w1.heap.size (w1.heap.size + 1) (some ⟨b, off, none⟩) (n + 1) cap T W0 (by omega) (by omega) (box1_out kS).1 hRg) belowK_t (belowK_b (by omega)) (Below.refl _ _) (fun _ => rfl)
      (fun pre W => (pre.all joinP = true ∧ W.heap[w.heap.size + 1]? = some (.cells #[.bool false] 4 (0, 0)) ∧ W.heap[w.heap.size]? = some (.cells #[.string rlo, .string rhi, .bool rop] 24 (0, 0))) ∧ (Below w.heap.size w W ∧ Below (w1.heap.size + 1) W0 W))
      (fun c pre W => (c = .ret ∧ pre.all joinP = false ∧ W.heap[w.heap.size + 1]? = some (.cells #[.bool false] 4 (0, 0))) ∧ Below w.heap.size w W)
      (OwnFrom.and (Own.from (fun s A B row hs hg hr => ⟨hs.1, cells_kept hs.2.1 hg hr, cells_kept hs.2.2 hg hr⟩) _) (OwnFrom.and (ownFrom_below (Nat.le_refl _) (by omega)) (ownFrom_below (by omega) (by omega))))
      (fun c => OwnFrom.and (Own.from (fun s A B row hs hg hr => ⟨hs.1, hs.2.1, cells_kept hs.2.2 hg hr⟩) _) (ownFrom_below (Nat.le_refl _) (by omega)))
      ⟨⟨rfl, kR0, kB0⟩, b02, Below.refl _ _⟩
      (fun x a' W => ∃ B, (W.heap[B]? = some (.cells #[.string x.1.lo, .string x.1.hi, .bool x.1.op] 24 (0, 0)) ∧ W.heap[B + 1]? = some (.cells #[.string x.2.lo, .string x.2.hi, .bool x.2.op] 24 (0, 0))) ∧ a' = { tmps := #[.slice (some ⟨b, off, none⟩) (n + 1) cap, .agg #[.string rlo, .string rhi, .bool rop], undef, .pointer (some ⟨w.heap.size, 0, none⟩), .pointer (some ⟨w.heap.size + 1, 0, none⟩), .pointer (some ⟨B, 0, none⟩), .pointer (some ⟨B + 1, 0, none⟩), .slice (some ⟨b, off, none⟩) (n + 1) cap, .int .i64 ((n : Int) + 1), .bool false, .bool false, .slice (some ⟨b, off, none⟩) (n + 1) cap, .bool true, .bool false, .bool false, .slice (some ⟨b, off, none⟩) (n + 1) cap, .func (.func 80) #[] #[.pointer (some ⟨w1.heap.size, 0, none⟩)], .agg #[.string x.1.lo, .string x.1.hi, .bool x.1.op], .agg #[.string x.2.lo, .string x.2.hi, .bool x.2.op], undef, undef, undef, undef, undef, undef, undef, undef, undef, undef, undef, undef, undef, undef, undef, undef, undef, undef, undef, undef, undef, undef], defers := [] })
      (fun x a' => Own.from (fun s A B row hs hg hr => by obtain ⟨k, ⟨h1, h2⟩, h3⟩ := hs; exact ⟨k, ⟨cells_kept h1 hg hr, cells_kept h2 hg hr⟩, h3⟩) _)
      ?assign ?body ?done ?stop
    case assign =>
      rintro l pre x W K ⟨⟨hp, hR, hB0⟩, hB, hB2⟩ hK
      dsimp only [pairV]
      gi_wp2
      have hW1 : W0.heap.size ≤ W.heap.size := hB2.size
      have k2 := heap_new (W.alloc (.cells #[.string x.1.lo, .string x.1.hi, .bool x.1.op] 24)) (.cells #[.string x.2.lo, .string x.2.hi, .bool x.2.op] 24)
      rw [World.size_alloc] at k2
      exact hK _ _ (((KeepsOthers.alloc _ _).trans (KeepsOthers.alloc _ _)).from _) (((Below.refl _ W).alloc (by omega) _).alloc (by simp; omega) _) ⟨⟨hp, keepA (keepA hR), keepA (keepA hB0)⟩, (hB.alloc hB.size _).alloc (by have := hB.size; simp; omega) _, (hB2.alloc (by omega) _).alloc (by simp; omega) _⟩ ⟨W.heap.size, ⟨keepA (heap_new W _), k2⟩, rfl⟩
    case body =>
      rintro l pre x a' W hl ⟨r, hr⟩ ⟨⟨hp, hR, hB0⟩, hB, hB2⟩ ⟨B, ⟨k1, k2⟩, rfl⟩ hlt
      obtain ⟨⟨c0, c1, c2⟩, -⟩ := box_out k1
      obtain ⟨⟨d0, d1, d2⟩, -⟩ := box_out k2
      obtain ⟨r0, r1⟩ := box1_out hR
      obtain ⟨⟨lo1, hi1, op1⟩, ⟨lo2, hi2, op2⟩⟩ := x
      dsimp only at c0 c1 c2 d0 d1 d2 ⊢
      clear k1 k2 hr hlt
      cases hj : (lo2.toList == hi1.toList)
      · gi_wp2
        exact ⟨(KeepsOthers.setCell _ _ _).from _, ⟨rfl, by rw [List.all_append]; simp [joinP, hj], (show Boxed W (w.heap.size + 1) 4 (.bool false) from hR).set _⟩, hB.setCell (p := ⟨w.heap.size + 1, 0, none⟩) (by simp) _⟩
      · gi_wp2
        exact ⟨KeepsFrom.refl _ _, Below.refl _ _, ⟨by rw [List.all_append, hp]; simp [joinP, hj], hR, hB0⟩, hB, hB2⟩
    case stop =>
      rintro D c pre W hD ⟨j, hj, rfl⟩ ⟨⟨rfl, hp, hR⟩, hB⟩ hK
      obtain ⟨r0, r1⟩ := box1_out hR
      gi_wp2
      refine ⟨by simp, .inl ⟨_, _, rfl, run_takeDeferred hK, ?_⟩⟩
      have hc5 := cell_kept r0 (grownBy_putObj' _ D (.deferred none)) (fun r e => by cases e; exact ⟨_, hK, rfl⟩)
      refine ⟨.bool false, ?_, by rw [show tiles T (n + 1) ⟨rlo, rhi, rop⟩ = false from joins_no hj hp], hB.trans (belowK_b (w := w) (Nat.le_refl _) W D _ _ (by omega) hK rfl rfl)⟩
      simp [results, Tryd.f12, go_sem, hc5]
    case done =>
      rintro D ys W hD rfl ⟨⟨hp, hR, hB0⟩, hB, hB2⟩ hK
      obtain ⟨r0, r1⟩ := box1_out hR
      obtain ⟨⟨q0, q1, q2⟩, -⟩ := box_out hB0
      have HRW := (H.out.below hB).2.2
      rcases HRW with h | ⟨b', off', e, hbb, hc⟩
      · omega
      · cases e
        obtain ⟨s0, s1, s2⟩ := hc 0 (by omega)
        obtain ⟨t0, t1, t2⟩ := hc n (by omega)
        simp only [Nat.zero_mul, Nat.add_zero] at s0
        have hv : Hid (tiles T (n + 1) ⟨rlo, rhi, rop⟩ = (((T 0).lo.toList == rlo.toList) && endAl ⟨(T n).lo, (T n).hi, (T n).op⟩ ⟨rlo, rhi, rop⟩)) := by
          show tiles T (n + 1) ⟨rlo, rhi, rop⟩ = _
          unfold tiles
          rw [hE, hp]
          simp
        have hKK := aside hK
        have hn0 : (0 : Int) ≤ (n : Int) := by omega
        have hn1 : (n : Int) < (n : Int) + 1 := by omega
        have hw2 : IntKind.i64.wrap (n : Int) = (n : Int) := by simp only [IntKind.wrap_i64]; omega
        have hn2 : (0 : Int) < (n : Int) + 1 := by omega
        clear hc hp s1 s2
        cases hq : ((T 0).lo.toList == rlo.toList)
        · rw [hq] at hv
          gi_wp2
          refine wpIn_wide.2 ?_
          refine Code.wp_mono NoPanic.imp ?_
          refine wp_region_held_drew (S := fun X => X.cell? ⟨b, off, none⟩ = some (.string (T 0).lo) ∧ X.cell? ⟨w.heap.size, 0, none⟩ = some (.string rlo) ∧ X.cell? ⟨w.heap.size, 1, none⟩ = some (.string rhi) ∧ X.cell? ⟨w.heap.size, 2, none⟩ = some (.bool rop) ∧ X.cell? ⟨b, off + n * 3, none⟩ = some (.string (T n).lo) ∧ X.cell? ⟨b, off + n * 3 + 1, none⟩ = some (.string (T n).hi) ∧ X.cell? ⟨b, off + n * 3 + 2, none⟩ = some (.bool (T n).op)) (by kernel_rfl) ⟨s0, q0, q1, q2, t0, t1, t2⟩ (fun hHeld => ?_)
          clear s0 q0 q1 q2 t0 t1 t2
          refine wpAnyH_take (i := 0) (v := ?_) rfl (by kernel_rfl) (by kernel_rfl) (by kernel_rfl) (fun _ _ _ h => h) (Or.inl ⟨by rfl, ?_⟩) (by assumption) ?_
          rotate_left
          · intro w hSw
            go_simp
            try with_reducible rfl
          simp only [Act.put, List.getElem_toArray, List.getElem_cons_zero, List.setIfInBounds_toArray, List.set_cons_zero, List.set_cons_succ]
          refine wpAnyH_take (i := 1) (v := ?_) rfl (by kernel_rfl) (by kernel_rfl) (by kernel_rfl) (fun _ _ _ h => h) (Or.inl ⟨by rfl, ?_⟩) (by assumption) ?_
          rotate_left
          · intro w hSw
            go_simp
            try with_reducible rfl
          simp only [Act.put, List.getElem_toArray, List.getElem_cons_zero, List.getElem_cons_succ, List.setIfInBounds_toArray, List.set_cons_zero, List.set_cons_succ]
          refine wpAnyH_take (i := 2) (v := ?_) rfl (by kernel_rfl) (by kernel_rfl) (by kernel_rfl) (fun _ _ _ h => h) (Or.inl ⟨by rfl, ?_⟩) (by assumption) ?_
          rotate_left
          · intro w hSw
            go_simp
            try with_reducible rfl
          simp only [Act.put, List.getElem_toArray, List.getElem_cons_zero, List.getElem_cons_succ, List.setIfInBounds_toArray, List.set_cons_zero, List.set_cons_succ]
          refine wpAnyH_take (i := 3) (v := ?_) rfl (by kernel_rfl) (by kernel_rfl) (by kernel_rfl) (fun _ _ _ h => h) (Or.inl ⟨by rfl, ?_⟩) (by assumption) ?_
          rotate_left
          · intro w hSw
            go_simp
            try with_reducible rfl
          simp only [Act.put, List.getElem_toArray, List.getElem_cons_zero, List.getElem_cons_succ, List.setIfInBounds_toArray, List.set_cons_zero, List.set_cons_succ]
          refine wpAnyH_take (i := 4) (v := ?_) rfl (by kernel_rfl) (by kernel_rfl) (by kernel_rfl) (fun _ _ _ h => h) (Or.inl ⟨by rfl, ?_⟩) (by assumption) ?_
          rotate_left
          · intro w hSw
            go_simp
            try with_reducible rfl
          simp only [Act.put, List.getElem_toArray, List.getElem_cons_zero, List.getElem_cons_succ, List.setIfInBounds_toArray, List.set_cons_zero, List.set_cons_succ]
          refine wpAnyH_take (i := 5) (v := ?_) rfl (by kernel_rfl) (by kernel_rfl) (by kernel_rfl) (fun _ _ _ h => h) (Or.inl ⟨by rfl, ?_⟩) (by assumption) ?_
          rotate_left
          · intro w hSw
            go_simp
            try with_reducible rfl
          simp only [Act.put, List.getElem_toArray, List.getElem_cons_zero, List.getElem_cons_succ, List.setIfInBounds_toArray, List.set_cons_zero, List.set_cons_succ]
          refine wpAnyH_take (i := 6) (v := ?_) rfl (by kernel_rfl) (by kernel_rfl) (by kernel_rfl) (fun _ _ _ h => h) (Or.inl ⟨by rfl, ?_⟩) (by assumption) ?_
          rotate_left
          · intro w hSw
            go_simp
            try with_reducible rfl
          simp only [Act.put, List.getElem_toArray, List.getElem_cons_zero, List.getElem_cons_succ, List.setIfInBounds_toArray, List.set_cons_zero, List.set_cons_succ]
          refine wpAnyH_take (i := 7) (v := ?_) rfl (by kernel_rfl) (by kernel_rfl) (by kernel_rfl) (fun _ _ _ h => h) (Or.inl ⟨by rfl, ?_⟩) (by assumption) ?_
          rotate_left
          · intro w hSw
            go_simp
            try with_reducible rfl
          simp only [Act.put, List.getElem_toArray, List.getElem_cons_zero, List.getElem_cons_succ, List.setIfInBounds_toArray, List.set_cons_zero, List.set_cons_succ]
          refine wpAnyH_take (i := 8) (v := undef) rfl (by kernel_rfl) (by kernel_rfl) (by kernel_rfl) (fun _ _ _ h => h) (Or.inr ⟨by rfl, rfl⟩) (by assumption) ?_
          simp only [Act.put, List.getElem_toArray, List.getElem_cons_zero, List.getElem_cons_succ, List.setIfInBounds_toArray, List.set_cons_zero, List.set_cons_succ]
          refine wpAnyH_take (i := 9) (v := undef) rfl (by kernel_rfl) (by kernel_rfl) (by kernel_rfl) (fun _ _ _ h => h) (Or.inr ⟨by rfl, rfl⟩) (by assumption) ?_
          simp only [Act.put, List.getElem_toArray, List.getElem_cons_zero, List.getElem_cons_succ, List.setIfInBounds_toArray, List.set_cons_zero, List.set_cons_succ]
          refine wpAnyH_take (i := 10) (v := undef) rfl (by kernel_rfl) (by kernel_rfl) (by kernel_rfl) (fun _ _ _ h => h) (Or.inr ⟨by rfl, rfl⟩) (by assumption) ?_
          simp only [Act.put, List.getElem_toArray, List.getElem_cons_zero, List.getElem_cons_succ, List.setIfInBounds_toArray, List.set_cons_zero, List.set_cons_succ]
          refine wpAnyH_take (i := 11) (v := undef) rfl (by kernel_rfl) (by kernel_rfl) (by kernel_rfl) (fun _ _ _ h => h) (Or.inr ⟨by rfl, rfl⟩) (by assumption) ?_
          simp only [Act.put, List.getElem_toArray, List.getElem_cons_zero, List.getElem_cons_succ, List.setIfInBounds_toArray, List.set_cons_zero, List.set_cons_succ]
          refine wpAnyH_take (i := 12) (v := undef) rfl (by kernel_rfl) (by kernel_rfl) (by kernel_rfl) (fun _ _ _ h => h) (Or.inr ⟨by rfl, rfl⟩) (by assumption) ?_
          simp only [Act.put, List.getElem_toArray, List.getElem_cons_zero, List.getElem_cons_succ, List.setIfInBounds_toArray, List.set_cons_zero, List.set_cons_succ]
          refine wpAnyH_take (i := 13) (v := undef) rfl (by kernel_rfl) (by kernel_rfl) (by kernel_rfl) (fun _ _ _ h => h) (Or.inr ⟨by rfl, rfl⟩) (by assumption) ?_
          simp only [Act.put, List.getElem_toArray, List.getElem_cons_zero, List.getElem_cons_succ, List.setIfInBounds_toArray, List.set_cons_zero, List.set_cons_succ]
          refine wpAnyH_take (i := 14) (v := undef) rfl (by kernel_rfl) (by kernel_rfl) (by kernel_rfl) (fun _ _ _ h => h) (Or.inr ⟨by rfl, rfl⟩) (by assumption) ?_
          simp only [Act.put, List.getElem_toArray, List.getElem_cons_zero, List.getElem_cons_succ, List.setIfInBounds_toArray, List.set_cons_zero, List.set_cons_succ]
          refine wpAnyH_take (i := 15) (v := undef) rfl (by kernel_rfl) (by kernel_rfl) (by kernel_rfl) (fun _ _ _ h => h) (Or.inr ⟨by rfl, rfl⟩) (by assumption) ?_
          simp only [Act.put, List.getElem_toArray, List.getElem_cons_zero, List.getElem_cons_succ, List.setIfInBounds_toArray, List.set_cons_zero, List.set_cons_succ]
          obtain ⟨w9, h9⟩ : ∃ w9, W.drew = w9 := ⟨_, rfl⟩
          have hK9 : w9.heap[D]? = some (.deferred (some [])) := by rw [← h9]; exact hKK.out
          have b9 : Below w.heap.size w w9 := by rw [← h9]; exact hB.drew
          have r0' : w9.cell? ⟨w.heap.size + 1, 0, none⟩ = some (.bool false) := by rw [← h9]; exact r0
          have r1' : w9.frozen? ⟨w.heap.size + 1, 0, none⟩ = false := by rw [← h9]; exact r1
          clear r0 r1
          have r0 := r0'
          rw [h9] at hHeld ⊢
          clear r0' h9
          refine wpAnyH_take (i := 16) (v := ?_) rfl (by kernel_rfl) (by kernel_rfl) (by kernel_rfl) (fun _ _ _ h => h) (Or.inl ⟨by rfl, ?_⟩) (by assumption) ?_
          rotate_left
          · intro w hSw
            go_simp
            try with_reducible rfl
          simp only [Act.put, List.getElem_toArray, List.getElem_cons_zero, List.getElem_cons_succ, List.setIfInBounds_toArray, List.set_cons_zero, List.set_cons_succ]
          refine wpAnyH_ready (rs := [17]) (by kernel_rfl) (by simp) ?_
          refine AllReadyH.cons rfl (fun K hK => ?_) AllReadyH.nil
          go_simp
          refine hK.out _ _ (tile_set hHeld hbb) (fun hHeld => ?_)
          clear hK K
          refine wpAnyH_done (by kernel_rfl) ?_ _
          refine NoPanic.normal ?_
          gi_wp2
          have hK' := (KeepsOthers.setCell (w9) ⟨w.heap.size + 1, 0, none⟩ (.bool false)).same D _ hK9 rfl
          refine ⟨by simp, .inl ⟨_, _, rfl, run_takeDeferred hK', ?_⟩⟩
          have hc5 := cell_kept (World.cell?_setCell_same' (w9) ⟨w.heap.size + 1, 0, none⟩ (.bool false) (by rw [r0]; rfl)) (grownBy_putObj' _ D (.deferred none)) (fun r e => by cases e; exact ⟨_, hK', rfl⟩)
          refine ⟨.bool false, ?_, by first | (rw [hv.out]; done) | (rw [hv.out]; rfl), (b9.setCell (p := ⟨w.heap.size + 1, 0, none⟩) (by simp) _).trans (belowK_b (w := w) (Nat.le_refl _) _ D _ _ (by omega) hK' rfl rfl)⟩
          simp [results, Tryd.f12, go_sem, hc5]
        · rw [hq] at hv
          cases hen : endAl ⟨(T n).lo, (T n).hi, (T n).op⟩ ⟨rlo, rhi, rop⟩
          · rw [hen] at hv
            have EA := aside (fun w => endAlike_at hen w)
            clear hen
            gi_wp2
            refine wpIn_wide.2 ?_
            refine Code.wp_mono NoPanic.imp ?_
            refine wp_region_held_drew (S := fun X => X.cell? ⟨b, off, none⟩ = some (.string (T 0).lo) ∧ X.cell? ⟨w.heap.size, 0, none⟩ = some (.string rlo) ∧ X.cell? ⟨w.heap.size, 1, none⟩ = some (.string rhi) ∧ X.cell? ⟨w.heap.size, 2, none⟩ = some (.bool rop) ∧ X.cell? ⟨b, off + n * 3, none⟩ = some (.string (T n).lo) ∧ X.cell? ⟨b, off + n * 3 + 1, none⟩ = some (.string (T n).hi) ∧ X.cell? ⟨b, off + n * 3 + 2, none⟩ = some (.bool (T n).op)) (by kernel_rfl) ⟨s0, q0, q1, q2, t0, t1, t2⟩ (fun hHeld => ?_)
            clear s0 q0 q1 q2 t0 t1 t2
            refine wpAnyH_take (i := 0) (v := ?_) rfl (by kernel_rfl) (by kernel_rfl) (by kernel_rfl) (fun _ _ _ h => h) (Or.inl ⟨by rfl, ?_⟩) (by assumption) ?_
            rotate_left
            · intro w hSw
              go_simp
              try with_reducible rfl
            simp only [Act.put, List.getElem_toArray, List.getElem_cons_zero, List.setIfInBounds_toArray, List.set_cons_zero, List.set_cons_succ]
            refine wpAnyH_take (i := 1) (v := ?_) rfl (by kernel_rfl) (by kernel_rfl) (by kernel_rfl) (fun _ _ _ h => h) (Or.inl ⟨by rfl, ?_⟩) (by assumption) ?_
            rotate_left
            · intro w hSw
              go_simp
              try with_reducible rfl
            simp only [Act.put, List.getElem_toArray, List.getElem_cons_zero, List.getElem_cons_succ, List.setIfInBounds_toArray, List.set_cons_zero, List.set_cons_succ]
            refine wpAnyH_take (i := 2) (v := ?_) rfl (by kernel_rfl) (by kernel_rfl) (by kernel_rfl) (fun _ _ _ h => h) (Or.inl ⟨by rfl, ?_⟩) (by assumption) ?_
            rotate_left
            · intro w hSw
              go_simp
              try with_reducible rfl
            simp only [Act.put, List.getElem_toArray, List.getElem_cons_zero, List.getElem_cons_succ, List.setIfInBounds_toArray, List.set_cons_zero, List.set_cons_succ]
            refine wpAnyH_take (i := 3) (v := ?_) rfl (by kernel_rfl) (by kernel_rfl) (by kernel_rfl) (fun _ _ _ h => h) (Or.inl ⟨by rfl, ?_⟩) (by assumption) ?_
            rotate_left
            · intro w hSw
              go_simp
              try with_reducible rfl
            simp only [Act.put, List.getElem_toArray, List.getElem_cons_zero, List.getElem_cons_succ, List.setIfInBounds_toArray, List.set_cons_zero, List.set_cons_succ]
            refine wpAnyH_take (i := 4) (v := ?_) rfl (by kernel_rfl) (by kernel_rfl) (by kernel_rfl) (fun _ _ _ h => h) (Or.inl ⟨by rfl, ?_⟩) (by assumption) ?_
            rotate_left
            · intro w hSw
              go_simp
              try with_reducible rfl
            simp only [Act.put, List.getElem_toArray, List.getElem_cons_zero, List.getElem_cons_succ, List.setIfInBounds_toArray, List.set_cons_zero, List.set_cons_succ]
            refine wpAnyH_take (i := 5) (v := ?_) rfl (by kernel_rfl) (by kernel_rfl) (by kernel_rfl) (fun _ _ _ h => h) (Or.inl ⟨by rfl, ?_⟩) (by assumption) ?_
            rotate_left
            · intro w hSw
              go_simp
              try with_reducible rfl
            simp only [Act.put, List.getElem_toArray, List.getElem_cons_zero, List.getElem_cons_succ, List.setIfInBounds_toArray, List.set_cons_zero, List.set_cons_succ]
            refine wpAnyH_take (i := 6) (v := ?_) rfl (by kernel_rfl) (by kernel_rfl) (by kernel_rfl) (fun _ _ _ h => h) (Or.inl ⟨by rfl, ?_⟩) (by assumption) ?_
            rotate_left
            · intro w hSw
              go_simp
              try with_reducible rfl
            simp only [Act.put, List.getElem_toArray, List.getElem_cons_zero, List.getElem_cons_succ, List.setIfInBounds_toArray, List.set_cons_zero, List.set_cons_succ]
            refine wpAnyH_take (i := 7) (v := ?_) rfl (by kernel_rfl) (by kernel_rfl) (by kernel_rfl) (fun _ _ _ h => h) (Or.inl ⟨by rfl, ?_⟩) (by assumption) ?_
            rotate_left
            · intro w hSw
              go_simp
              try with_reducible rfl
            simp only [Act.put, List.getElem_toArray, List.getElem_cons_zero, List.getElem_cons_succ, List.setIfInBounds_toArray, List.set_cons_zero, List.set_cons_succ]
            refine wpAnyH_take (i := 8) (v := ?_) rfl (by kernel_rfl) (by kernel_rfl) (by kernel_rfl) (fun _ _ _ h => h) (Or.inl ⟨by rfl, ?_⟩) (by assumption) ?_
            rotate_left
            · intro w hSw
              go_simp
              try with_reducible rfl
            simp only [Act.put, List.getElem_toArray, List.getElem_cons_zero, List.getElem_cons_succ, List.setIfInBounds_toArray, List.set_cons_zero, List.set_cons_succ]
            refine wpAnyH_take (i := 9) (v := ?_) rfl (by kernel_rfl) (by kernel_rfl) (by kernel_rfl) (fun _ _ _ h => h) (Or.inl ⟨by rfl, ?_⟩) (by assumption) ?_
            rotate_left
            · intro w hSw
              go_simp
              try with_reducible rfl
            simp only [Act.put, List.getElem_toArray, List.getElem_cons_zero, List.getElem_cons_succ, List.setIfInBounds_toArray, List.set_cons_zero, List.set_cons_succ]
            refine wpAnyH_take (i := 10) (v := ?_) rfl (by kernel_rfl) (by kernel_rfl) (by kernel_rfl) (fun _ _ _ h => h) (Or.inl ⟨by rfl, ?_⟩) (by assumption) ?_
            rotate_left
            · intro w hSw
              go_simp
              try with_reducible rfl
            simp only [Act.put, List.getElem_toArray, List.getElem_cons_zero, List.getElem_cons_succ, List.setIfInBounds_toArray, List.set_cons_zero, List.set_cons_succ]
            refine wpAnyH_take (i := 11) (v := ?_) rfl (by kernel_rfl) (by kernel_rfl) (by kernel_rfl) (fun _ _ _ h => h) (Or.inl ⟨by rfl, ?_⟩) (by assumption) ?_
            rotate_left
            · intro w hSw
              go_simp
              try with_reducible rfl
            simp only [Act.put, List.getElem_toArray, List.getElem_cons_zero, List.getElem_cons_succ, List.setIfInBounds_toArray, List.set_cons_zero, List.set_cons_succ]
            refine wpAnyH_take (i := 12) (v := ?_) rfl (by kernel_rfl) (by kernel_rfl) (by kernel_rfl) (fun _ _ _ h => h) (Or.inl ⟨by rfl, ?_⟩) (by assumption) ?_
            rotate_left
            · intro w hSw
              go_simp
              try with_reducible rfl
            simp only [Act.put, List.getElem_toArray, List.getElem_cons_zero, List.getElem_cons_succ, List.setIfInBounds_toArray, List.set_cons_zero, List.set_cons_succ]
            refine wpAnyH_take (i := 13) (v := ?_) rfl (by kernel_rfl) (by kernel_rfl) (by kernel_rfl) (fun _ _ _ h => h) (Or.inl ⟨by rfl, ?_⟩) (by assumption) ?_
            rotate_left
            · intro w hSw
              go_simp
              try with_reducible rfl
            simp only [Act.put, List.getElem_toArray, List.getElem_cons_zero, List.getElem_cons_succ, List.setIfInBounds_toArray, List.set_cons_zero, List.set_cons_succ]
            refine wpAnyH_take (i := 14) (v := ?_) rfl (by kernel_rfl) (by kernel_rfl) (by kernel_rfl) (fun _ _ _ h => h) (Or.inl ⟨by rfl, ?_⟩) (by assumption) ?_
            rotate_left
            · intro w hSw
              go_simp
              try with_reducible rfl
            simp only [Act.put, List.getElem_toArray, List.getElem_cons_zero, List.getElem_cons_succ, List.setIfInBounds_toArray, List.set_cons_zero, List.set_cons_succ]
            refine wpAnyH_ready (rs := [15]) (by kernel_rfl) (by simp) ?_
            refine AllReadyH.cons rfl (fun K hK => ?_) AllReadyH.nil
            go_simp
            refine (EA.out _).mono ?_
            rintro e w9 ⟨rfl, bb⟩
            refine hK.out _ _ (tile_keep hHeld bb) (fun hHeld => ?_)
            clear hK K EA
            have hK9 : w9.heap[D]? = some (.deferred (some [])) := (bb.block D (lies (w := W) hKK.out)).trans hKK.out
            have b9 := hB.drew.trans (bb.mono hB.size)
            have r0' : w9.cell? ⟨w.heap.size + 1, 0, none⟩ = some (.bool false) := cell_on (W := W.drew) r0 bb
            have r1' : w9.frozen? ⟨w.heap.size + 1, 0, none⟩ = false := (bb.frozen (p := ⟨w.heap.size + 1, 0, none⟩) (lies (w := W) hR)).trans r1
            clear r0 r1
            have r0 := r0'
            clear r0' bb
            refine wpAnyH_take (i := 16) (v := ?_) rfl (by kernel_rfl) (by kernel_rfl) (by kernel_rfl) (fun _ _ _ h => h) (Or.inl ⟨by rfl, ?_⟩) (by assumption) ?_
            rotate_left
            · intro w hSw
              go_simp
              try with_reducible rfl
            simp only [Act.put, List.getElem_toArray, List.getElem_cons_zero, List.getElem_cons_succ, List.setIfInBounds_toArray, List.set_cons_zero, List.set_cons_succ]
            refine wpAnyH_ready (rs := [17]) (by kernel_rfl) (by simp) ?_
            refine AllReadyH.cons rfl (fun K hK => ?_) AllReadyH.nil
            go_simp
            refine hK.out _ _ (tile_set hHeld hbb) (fun hHeld => ?_)
            clear hK K
            refine wpAnyH_done (by kernel_rfl) ?_ _
            refine NoPanic.normal ?_
            gi_wp2
            have hK' := (KeepsOthers.setCell (w9) ⟨w.heap.size + 1, 0, none⟩ (.bool false)).same D _ hK9 rfl
            refine ⟨by simp, .inl ⟨_, _, rfl, run_takeDeferred hK', ?_⟩⟩
            have hc5 := cell_kept (World.cell?_setCell_same' (w9) ⟨w.heap.size + 1, 0, none⟩ (.bool false) (by rw [r0]; rfl)) (grownBy_putObj' _ D (.deferred none)) (fun r e => by cases e; exact ⟨_, hK', rfl⟩)
            refine ⟨.bool false, ?_, by first | (rw [hv.out]; done) | (rw [hv.out]; rfl), (b9.setCell (p := ⟨w.heap.size + 1, 0, none⟩) (by simp) _).trans (belowK_b (w := w) (Nat.le_refl _) _ D _ _ (by omega) hK' rfl rfl)⟩
            simp [results, Tryd.f12, go_sem, hc5]
          · rw [hen] at hv
            have EA := aside (fun w => endAlike_at hen w)
            clear hen
            gi_wp2
            refine wpIn_wide.2 ?_
            refine Code.wp_mono NoPanic.imp ?_
            refine wp_region_held_drew (S := fun X => X.cell? ⟨b, off, none⟩ = some (.string (T 0).lo) ∧ X.cell? ⟨w.heap.size, 0, none⟩ = some (.string rlo) ∧ X.cell? ⟨w.heap.size, 1, none⟩ = some (.string rhi) ∧ X.cell? ⟨w.heap.size, 2, none⟩ = some (.bool rop) ∧ X.cell? ⟨b, off + n * 3, none⟩ = some (.string (T n).lo) ∧ X.cell? ⟨b, off + n * 3 + 1, none⟩ = some (.string (T n).hi) ∧ X.cell? ⟨b, off + n * 3 + 2, none⟩ = some (.bool (T n).op)) (by kernel_rfl) ⟨s0, q0, q1, q2, t0, t1, t2⟩ (fun hHeld => ?_)
            clear s0 q0 q1 q2 t0 t1 t2
            refine wpAnyH_take (i := 0) (v := ?_) rfl (by kernel_rfl) (by kernel_rfl) (by kernel_rfl) (fun _ _ _ h => h) (Or.inl ⟨by rfl, ?_⟩) (by assumption) ?_
            rotate_left
            · intro w hSw
              go_simp
              try with_reducible rfl
            simp only [Act.put, List.getElem_toArray, List.getElem_cons_zero, List.setIfInBounds_toArray, List.set_cons_zero, List.set_cons_succ]
            refine wpAnyH_take (i := 1) (v := ?_) rfl (by kernel_rfl) (by kernel_rfl) (by kernel_rfl) (fun _ _ _ h => h) (Or.inl ⟨by rfl, ?_⟩) (by assumption) ?_
            rotate_left
            · intro w hSw
              go_simp
              try with_reducible rfl
            simp only [Act.put, List.getElem_toArray, List.getElem_cons_zero, List.getElem_cons_succ, List.setIfInBounds_toArray, List.set_cons_zero, List.set_cons_succ]
            refine wpAnyH_take (i := 2) (v := ?_) rfl (by kernel_rfl) (by kernel_rfl) (by kernel_rfl) (fun _ _ _ h => h) (Or.inl ⟨by rfl, ?_⟩) (by assumption) ?_
            rotate_left
            · intro w hSw
              go_simp
              try with_reducible rfl
            simp only [Act.put, List.getElem_toArray, List.getElem_cons_zero, List.getElem_cons_succ, List.setIfInBounds_toArray, List.set_cons_zero, List.set_cons_succ]
            refine wpAnyH_take (i := 3) (v := ?_) rfl (by kernel_rfl) (by kernel_rfl) (by kernel_rfl) (fun _ _ _ h => h) (Or.inl ⟨by rfl, ?_⟩) (by assumption) ?_
            rotate_left
            · intro w hSw
              go_simp
              try with_reducible rfl
            simp only [Act.put, List.getElem_toArray, List.getElem_cons_zero, List.getElem_cons_succ, List.setIfInBounds_toArray, List.set_cons_zero, List.set_cons_succ]
            refine wpAnyH_take (i := 4) (v := ?_) rfl (by kernel_rfl) (by kernel_rfl) (by kernel_rfl) (fun _ _ _ h => h) (Or.inl ⟨by rfl, ?_⟩) (by assumption) ?_
            rotate_left
            · intro w hSw
              go_simp
              try with_reducible rfl
            simp only [Act.put, List.getElem_toArray, List.getElem_cons_zero, List.getElem_cons_succ, List.setIfInBounds_toArray, List.set_cons_zero, List.set_cons_succ]
            refine wpAnyH_take (i := 5) (v := ?_) rfl (by kernel_rfl) (by kernel_rfl) (by kernel_rfl) (fun _ _ _ h => h) (Or.inl ⟨by rfl, ?_⟩) (by assumption) ?_
            rotate_left
            · intro w hSw
              go_simp
              try with_reducible rfl
            simp only [Act.put, List.getElem_toArray, List.getElem_cons_zero, List.getElem_cons_succ, List.setIfInBounds_toArray, List.set_cons_zero, List.set_cons_succ]
            refine wpAnyH_take (i := 6) (v := ?_) rfl (by kernel_rfl) (by kernel_rfl) (by kernel_rfl) (fun _ _ _ h => h) (Or.inl ⟨by rfl, ?_⟩) (by assumption) ?_
            rotate_left
            · intro w hSw
              go_simp
              try with_reducible rfl
            simp only [Act.put, List.getElem_toArray, List.getElem_cons_zero, List.getElem_cons_succ, List.setIfInBounds_toArray, List.set_cons_zero, List.set_cons_succ]
            refine wpAnyH_take (i := 7) (v := ?_) rfl (by kernel_rfl) (by kernel_rfl) (by kernel_rfl) (fun _ _ _ h => h) (Or.inl ⟨by rfl, ?_⟩) (by assumption) ?_
            rotate_left
            · intro w hSw
              go_simp
              try with_reducible rfl
            simp only [Act.put, List.getElem_toArray, List.getElem_cons_zero, List.getElem_cons_succ, List.setIfInBounds_toArray, List.set_cons_zero, List.set_cons_succ]
            refine wpAnyH_take (i := 8) (v := ?_) rfl (by kernel_rfl) (by kernel_rfl) (by kernel_rfl) (fun _ _ _ h => h) (Or.inl ⟨by rfl, ?_⟩) (by assumption) ?_
            rotate_left
            · intro w hSw
              go_simp
              try with_reducible rfl
            simp only [Act.put, List.getElem_toArray, List.getElem_cons_zero, List.getElem_cons_succ, List.setIfInBounds_toArray, List.set_cons_zero, List.set_cons_succ]
            refine wpAnyH_take (i := 9) (v := ?_) rfl (by kernel_rfl) (by kernel_rfl) (by kernel_rfl) (fun _ _ _ h => h) (Or.inl ⟨by rfl, ?_⟩) (by assumption) ?_
            rotate_left
            · intro w hSw
              go_simp
              try with_reducible rfl
            simp only [Act.put, List.getElem_toArray, List.getElem_cons_zero, List.getElem_cons_succ, List.setIfInBounds_toArray, List.set_cons_zero, List.set_cons_succ]
            refine wpAnyH_take (i := 10) (v := ?_) rfl (by kernel_rfl) (by kernel_rfl) (by kernel_rfl) (fun _ _ _ h => h) (Or.inl ⟨by rfl, ?_⟩) (by assumption) ?_
            rotate_left
            · intro w hSw
              go_simp
              try with_reducible rfl
            simp only [Act.put, List.getElem_toArray, List.getElem_cons_zero, List.getElem_cons_succ, List.setIfInBounds_toArray, List.set_cons_zero, List.set_cons_succ]
            refine wpAnyH_take (i := 11) (v := ?_) rfl (by kernel_rfl) (by kernel_rfl) (by kernel_rfl) (fun _ _ _ h => h) (Or.inl ⟨by rfl, ?_⟩) (by assumption) ?_
            rotate_left
            · intro w hSw
              go_simp
              try with_reducible rfl
            simp only [Act.put, List.getElem_toArray, List.getElem_cons_zero, List.getElem_cons_succ, List.setIfInBounds_toArray, List.set_cons_zero, List.set_cons_succ]
            refine wpAnyH_take (i := 12) (v := ?_) rfl (by kernel_rfl) (by kernel_rfl) (by kernel_rfl) (fun _ _ _ h => h) (Or.inl ⟨by rfl, ?_⟩) (by assumption) ?_
            rotate_left
            · intro w hSw
              go_simp
              try with_reducible rfl
            simp only [Act.put, List.getElem_toArray, List.getElem_cons_zero, List.getElem_cons_succ, List.setIfInBounds_toArray, List.set_cons_zero, List.set_cons_succ]
            refine wpAnyH_take (i := 13) (v := ?_) rfl (by kernel_rfl) (by kernel_rfl) (by kernel_rfl) (fun _ _ _ h => h) (Or.inl ⟨by rfl, ?_⟩) (by assumption) ?_
            rotate_left
            · intro w hSw
              go_simp
              try with_reducible rfl
            simp only [Act.put, List.getElem_toArray, List.getElem_cons_zero, List.getElem_cons_succ, List.setIfInBounds_toArray, List.set_cons_zero, List.set_cons_succ]
            refine wpAnyH_take (i := 14) (v := ?_) rfl (by kernel_rfl) (by kernel_rfl) (by kernel_rfl) (fun _ _ _ h => h) (Or.inl ⟨by rfl, ?_⟩) (by assumption) ?_
            rotate_left
            · intro w hSw
              go_simp
              try with_reducible rfl
            simp only [Act.put, List.getElem_toArray, List.getElem_cons_zero, List.getElem_cons_succ, List.setIfInBounds_toArray, List.set_cons_zero, List.set_cons_succ]
            refine wpAnyH_ready (rs := [15]) (by kernel_rfl) (by simp) ?_
            refine AllReadyH.cons rfl (fun K hK => ?_) AllReadyH.nil
            go_simp
            refine (EA.out _).mono ?_
            rintro e w9 ⟨rfl, bb⟩
            refine hK.out _ _ (tile_keep hHeld bb) (fun hHeld => ?_)
            clear hK K EA
            have hK9 : w9.heap[D]? = some (.deferred (some [])) := (bb.block D (lies (w := W) hKK.out)).trans hKK.out
            have b9 := hB.drew.trans (bb.mono hB.size)
            have r0' : w9.cell? ⟨w.heap.size + 1, 0, none⟩ = some (.bool false) := cell_on (W := W.drew) r0 bb
            have r1' : w9.frozen? ⟨w.heap.size + 1, 0, none⟩ = false := (bb.frozen (p := ⟨w.heap.size + 1, 0, none⟩) (lies (w := W) hR)).trans r1
            clear r0 r1
            have r0 := r0'
            clear r0' bb
            refine wpAnyH_take (i := 16) (v := ?_) rfl (by kernel_rfl) (by kernel_rfl) (by kernel_rfl) (fun _ _ _ h => h) (Or.inl ⟨by rfl, ?_⟩) (by assumption) ?_
            rotate_left
            · intro w hSw
              go_simp
              try with_reducible rfl
            simp only [Act.put, List.getElem_toArray, List.getElem_cons_zero, List.getElem_cons_succ, List.setIfInBounds_toArray, List.set_cons_zero, List.set_cons_succ]
            refine wpAnyH_ready (rs := [17]) (by kernel_rfl) (by simp) ?_
            refine AllReadyH.cons rfl (fun K hK => ?_) AllReadyH.nil
            go_simp
            refine hK.out _ _ (tile_set hHeld hbb) (fun hHeld => ?_)
            clear hK K
            refine wpAnyH_done (by kernel_rfl) ?_ _
            refine NoPanic.normal ?_
            gi_wp2
            have hK' := (KeepsOthers.setCell (w9) ⟨w.heap.size + 1, 0, none⟩ (.bool true)).same D _ hK9 rfl
            refine ⟨by simp, .inl ⟨_, _, rfl, run_takeDeferred hK', ?_⟩⟩
            have hc5 := cell_kept (World.cell?_setCell_same' (w9) ⟨w.heap.size + 1, 0, none⟩ (.bool true) (by rw [r0]; rfl)) (grownBy_putObj' _ D (.deferred none)) (fun r e => by cases e; exact ⟨_, hK', rfl⟩)
            refine ⟨.bool true, ?_, by first | (rw [hv.out]; done) | (rw [hv.out]; rfl), (b9.setCell (p := ⟨w.heap.size + 1, 0, none⟩) (by simp) _).trans (belowK_b (w := w) (Nat.le_refl _) _ D _ _ (by omega) hK' rfl rfl)⟩
            simp [results, Tryd.f12, go_sem, hc5]
theorem tile_any (a : Option Addr) (len cap : Nat) (T : Nat → Rg) (rlo rhi : ByteArray) (rop : Bool) (w : World) (h : RgsIn w.heap.size w a len cap T) :
    Calls Tryd.prog 12 #[.slice a len cap, .agg #[.string rlo, .string rhi, .bool rop]] w fun e w' => e = .returned (.bool (tiles T len ⟨rlo, rhi, rop⟩)) ∧ Below w.heap.size w w' := by
  cases len with
  | zero => exact (callsIn_wide (n := 3)).1 (tile_none 3 a cap T rlo rhi rop w)
  | succ n =>
    obtain ⟨h1, h2, h3 | ⟨b, off, rfl, h4⟩⟩ := h
    · omega
    · exact (callsIn_wide (n := 3)).1 (tile_in 3 (Nat.le_refl _) b off n cap T rlo rhi rop w ⟨h1, h2, .inr ⟨b, off, rfl, h4⟩⟩)
end Go.Proofs.YtoflalflacopdaaDoor

/-
  Rising, the code's: it returns what the plain function gives, and writes nothing that was there.
-/
import Derived.Test.YtfnmpfaecafckaaYSIdx
namespace Go.Proofs.Ytfnmpfaecafckaa
open Go.RowKit Go.Shelf
attribute [local go_sem] Oper.semAt_some
/-- May the second of two neighbours stand behind the first? -/
def okP (x : Rg × Rg) : Bool := !(x.1.op || Op.bytesLess x.2.lo.toList x.1.hi.toList)

/-- Do the first n ranges rise? -/
def rises (T : Nat → Rg) (n : Nat) : Bool := !anyE T n && (upto (fun j => (T j, T (j + 1))) (n - 1)).all okP

theorem cells_kept {W W' : World} {row : Option Nat} {k : Nat} {cs : Array Value} {t : TypeId} {fr : Nat × Nat} (h : W.heap[k]? = some (.cells cs t fr)) (hg : W.grownBy W' row) (hrow : ∀ r, row = some r → ∃ o : Obj, W.heap[r]? = some o ∧ o.isCells = false) :
    W'.heap[k]? = some (.cells cs t fr) := (grownBy_keeps_cells hg hrow h rfl).trans h

theorem RgsIn.up {n₀ n₁ : Nat} {A B : World} (h : Below n₀ A B) (hn : n₀ ≤ n₁) {a : Option Addr} {len cap : Nat} {T : Nat → Rg} (hr : RgsIn n₀ A a len cap T) : RgsIn n₁ B a len cap T := by
  obtain ⟨h1, h2, h3⟩ := hr.below h
  refine ⟨h1, h2, ?_⟩
  rcases h3 with h3 | ⟨blk, off, e, hb, hc⟩
  · exact .inl h3
  · exact .inr ⟨blk, off, e, Nat.lt_of_lt_of_le hb hn, hc⟩

theorem box1_out {W : World} {k : Nat} {a : Value} {t : TypeId} (h : W.heap[k]? = some (.cells #[a] t (0, 0))) : W.cell? ⟨k, 0, none⟩ = some a ∧ W.frozen? ⟨k, 0, none⟩ = false := by
  simp [World.cell?, World.frozen?, h]

theorem rises_no {T : Nat → Rg} {len k : Nat} (hk : k ≤ len - 1) (h : (upto (fun j => (T j, T (j + 1))) k).all okP = false) : rises T len = false := by
  have : (upto (fun j => (T j, T (j + 1))) (len - 1)).all okP = false := by
    rw [Bool.eq_false_iff] at h ⊢
    intro h2
    apply h
    rw [List.all_eq_true] at h2 ⊢
    intro x hx
    apply h2
    simp only [upto, List.mem_map, List.mem_range] at hx ⊢
    obtain ⟨j, hj, e⟩ := hx
    exact ⟨j, by omega, e⟩
  simp [rises, this]

theorem contains_at {a : Option Addr} {len cap : Nat} {T : Nat → Rg} {q : Bool} (hq : anyE T len = q) (w : World) (h : RgsIn w.heap.size w a len cap T) :
    Calls Try.prog 47 #[.slice a len cap, .func (.func 48) #[] #[]] w fun e w' => e = .returned (.bool q) ∧ Below w.heap.size w w' := by
  subst hq; exact contains_any a len cap T w h

set_option maxRecDepth 100000 in
set_option maxHeartbeats 4000000 in
theorem rising_in (n : Nat) (hn : 3 ≤ n) (a : Option Addr) (len cap : Nat) (T : Nat → Rg) (w : World) (h : RgsIn w.heap.size w a len cap T) :
    CallsIn Fence.wide n Try.prog 26 #[.slice a len cap] w fun e w' => e = .returned (.bool (rises T len)) ∧ Below w.heap.size w w' := by
  have h1 : 1 ≤ n := by omega
  have H := aside h
  clear h
  cases hE : anyE T len
  · refine callsIn_of_wp_marks Try.func26 rfl trivial ?_ rfl
    simp only [Try.ntmps26, List.size_toArray, List.length_cons, List.length_nil, Nat.reduceAdd, Nat.reduceSub, Array.replicate_succ, Array.replicate_zero, List.push_toArray, List.append_toArray, List.nil_append, List.cons_append]
    gi_wp2
    refine ⟨trivial, ?_⟩
    refine (callsIn_wide.2 (contains_at hE _ (H.out.up (bnew w _) (by simp)))).mono ?_
    rintro e w1 ⟨rfl, b1⟩
    have kR := keep (heap_new w (.cells #[.bool false] 4)) b1
    have b01 := bthen (bnew w (.cells #[.bool false] 4)) b1
    obtain ⟨r0, r1⟩ := box1_out kR
    clear b1
    gi_wp2_with fail
    refine ⟨trivial, ?_⟩
    refine (nb_in (n - 1) _ _ _ _).mono ?_
    rintro e w' ⟨rfl, rfl⟩
    gi_wp2_with fail
    have kB := heap_new w1 (.cells #[.slice a len cap] 50)
    have kR0 := keepA (p := .cells #[.slice a len cap] 50) kR
    have b02 := bthen b01 (bnew w1 (.cells #[.slice a len cap] 50))
    have hsz : (w1.alloc (.cells #[.slice a len cap] 50)).heap.size = w1.heap.size + 1 := by simp
    have hs1 := lies kR
    obtain ⟨W0, hW0⟩ : ∃ W0, w1.alloc (.cells #[.slice a len cap] 50) = W0 := ⟨_, rfl⟩
    rw [hW0] at kB kR0 b02 hsz ⊢
    clear hW0 kR r0 r1
    have hRg : RgsIn (w1.heap.size + 1) W0 a len cap T := H.out.up b02 (by omega)
    refine wpIn_rangeFunc_ownH rfl h1 (gf := 60) (lb := #[.pointer (some ⟨w1.heap.size, 0, none⟩)]) rfl trivial (enters_of Try.func60 (by kernel_rfl) rfl)
      (nb_stops (n - 1) (by omega) w1.heap.size (w1.heap.size + 1) a len cap T W0 (by omega) (by omega) (box1_out kB).1 hRg) belowK_t (belowK_b (by omega)) (Below.refl _ _) (fun _ => rfl)
      (fun pre W => (pre.all okP = true ∧ W.heap[w.heap.size]? = some (.cells #[.bool false] 4 (0, 0))) ∧ (Below w.heap.size w W ∧ Below (w1.heap.size + 1) W0 W))
      (fun c pre W => (c = .ret ∧ pre.all okP = false ∧ W.heap[w.heap.size]? = some (.cells #[.bool false] 4 (0, 0))) ∧ Below w.heap.size w W)
      (OwnFrom.and (Own.from (fun s A B row hs hg hr => ⟨hs.1, cells_kept hs.2 hg hr⟩) _) (OwnFrom.and (ownFrom_below (Nat.le_refl _) (by omega)) (ownFrom_below (by omega) (by omega))))
      (fun c => OwnFrom.and (Own.from (fun s A B row hs hg hr => ⟨hs.1, hs.2.1, cells_kept hs.2.2 hg hr⟩) _) (ownFrom_below (Nat.le_refl _) (by omega)))
      ⟨⟨rfl, kR0⟩, b02, Below.refl _ _⟩
      (fun x a' W => ∃ B, (W.heap[B]? = some (.cells #[.string x.1.lo, .string x.1.hi, .bool x.1.op] 36 (0, 0)) ∧ W.heap[B + 1]? = some (.cells #[.string x.2.lo, .string x.2.hi, .bool x.2.op] 36 (0, 0))) ∧ a' = { tmps := #[.slice a len cap, undef, .pointer (some ⟨w.heap.size, 0, none⟩), .pointer (some ⟨B, 0, none⟩), .pointer (some ⟨B + 1, 0, none⟩), .slice a len cap, .bool false, .slice a len cap, .func (.func 60) #[] #[.pointer (some ⟨w1.heap.size, 0, none⟩)], .agg #[.string x.1.lo, .string x.1.hi, .bool x.1.op], .agg #[.string x.2.lo, .string x.2.hi, .bool x.2.op], undef, undef, undef, undef, undef, undef, undef, undef, undef], defers := [] })
      (fun x a' => Own.from (fun s A B row hs hg hr => by obtain ⟨k, ⟨h1, h2⟩, h3⟩ := hs; exact ⟨k, ⟨cells_kept h1 hg hr, cells_kept h2 hg hr⟩, h3⟩) _)
      ?assign ?body ?done ?stop
    case assign =>
      rintro l pre x W K ⟨⟨hp, hR⟩, hB, hB2⟩ hK
      dsimp only [pairV]
      gi_wp2
      have hW1 : W0.heap.size ≤ W.heap.size := hB2.size
      have k2 := heap_new (W.alloc (.cells #[.string x.1.lo, .string x.1.hi, .bool x.1.op] 36)) (.cells #[.string x.2.lo, .string x.2.hi, .bool x.2.op] 36)
      rw [World.size_alloc] at k2
      exact hK _ _ (((KeepsOthers.alloc _ _).trans (KeepsOthers.alloc _ _)).from _) (((Below.refl _ W).alloc (by omega) _).alloc (by simp; omega) _) ⟨⟨hp, keepA (keepA hR)⟩, (hB.alloc hB.size _).alloc (by have := hB.size; simp; omega) _, (hB2.alloc (by omega) _).alloc (by simp; omega) _⟩ ⟨W.heap.size, ⟨keepA (heap_new W _), k2⟩, rfl⟩
    case body =>
      rintro l pre x a' W hl ⟨r, hr⟩ ⟨⟨hp, hR⟩, hB, hB2⟩ ⟨B, ⟨k1, k2⟩, rfl⟩ hlt
      obtain ⟨⟨c0, c1, c2⟩, -⟩ := box_out k1
      obtain ⟨⟨d0, d1, d2⟩, -⟩ := box_out k2
      obtain ⟨r0, r1⟩ := box1_out hR
      obtain ⟨⟨lo1, hi1, op1⟩, ⟨lo2, hi2, op2⟩⟩ := x
      dsimp only at c0 c1 c2 d0 d1 d2 ⊢
      clear k1 k2 hr hlt
      cases op1
      · cases hl2 : Op.bytesLess lo2.toList hi1.toList
        · gi_wp2
          exact ⟨KeepsFrom.refl _ _, Below.refl _ _, ⟨by rw [List.all_append, hp]; simp [okP, hl2], hR⟩, hB, hB2⟩
        · gi_wp2
          exact ⟨(KeepsOthers.setCell _ _ _).from _, ⟨rfl, by rw [List.all_append]; simp [okP, hl2], (show Boxed W w.heap.size 4 (.bool false) from hR).set _⟩, hB.setCell (p := ⟨w.heap.size, 0, none⟩) (Nat.le_refl _) _⟩
      · gi_wp2
        exact ⟨(KeepsOthers.setCell _ _ _).from _, ⟨rfl, by rw [List.all_append]; simp [okP], (show Boxed W w.heap.size 4 (.bool false) from hR).set _⟩, hB.setCell (p := ⟨w.heap.size, 0, none⟩) (Nat.le_refl _) _⟩
    case done =>
      rintro D ys W hD rfl ⟨⟨hp, hR⟩, hB, hB2⟩ hK
      obtain ⟨r0, r1⟩ := box1_out hR
      gi_wp2
      have hK' := (KeepsOthers.setCell W ⟨w.heap.size, 0, none⟩ (.bool true)).same D _ hK rfl
      refine ⟨by simp, .inl ⟨_, _, rfl, run_takeDeferred hK', ?_⟩⟩
      have hc5 := cell_kept (World.cell?_setCell_same' W ⟨w.heap.size, 0, none⟩ (.bool true) (by rw [r0]; rfl)) (grownBy_putObj' _ D (.deferred none)) (fun r e => by cases e; exact ⟨_, hK', rfl⟩)
      refine ⟨.bool true, ?_, by rw [show rises T len = true from by simp only [rises, hE, hp]; rfl], (hB.setCell (p := ⟨w.heap.size, 0, none⟩) (by simp) _).trans (belowK_b (w := w) (Nat.le_refl _) _ D _ _ (by omega) hK' rfl rfl)⟩
      simp [results, Try.f26, go_sem, hc5]
    case stop =>
      rintro D c pre W hD ⟨k, hk, rfl⟩ ⟨⟨rfl, hp, hR⟩, hB⟩ hK
      obtain ⟨r0, r1⟩ := box1_out hR
      gi_wp2
      refine ⟨by simp, .inl ⟨_, _, rfl, run_takeDeferred hK, ?_⟩⟩
      have hc5 := cell_kept r0 (grownBy_putObj' _ D (.deferred none)) (fun r e => by cases e; exact ⟨_, hK, rfl⟩)
      refine ⟨.bool false, ?_, by rw [show rises T len = false from rises_no hk hp], hB.trans (belowK_b (w := w) (Nat.le_refl _) W D _ _ (by omega) hK rfl rfl)⟩
      simp [results, Try.f26, go_sem, hc5]
  · refine callsIn_of_wp_marks Try.func26 rfl trivial ?_ rfl
    simp only [Try.ntmps26, List.size_toArray, List.length_cons, List.length_nil, Nat.reduceAdd, Nat.reduceSub, Array.replicate_succ, Array.replicate_zero, List.push_toArray, List.append_toArray, List.nil_append, List.cons_append]
    gi_wp2
    refine ⟨trivial, ?_⟩
    refine (callsIn_wide.2 (contains_at hE _ (H.out.up (bnew w _) (by simp)))).mono ?_
    rintro e w1 ⟨rfl, b1⟩
    have kR := keep (heap_new w (.cells #[.bool false] 4)) b1
    have b01 := bthen (bnew w (.cells #[.bool false] 4)) b1
    obtain ⟨r0, r1⟩ := box1_out kR
    clear b1
    gi_wp2_with fail
    have r2 := World.cell?_setCell_same' w1 ⟨w.heap.size, 0, none⟩ (.bool false) (by rw [r0]; rfl)
    refine ⟨.bool false, by simp [results, Try.f26, go_sem, r2], ?_, b01.setCell (p := ⟨w.heap.size, 0, none⟩) (Nat.le_refl _) _⟩
    rw [show rises T len = false from by simp [rises, hE]]

theorem rising_any (a : Option Addr) (len cap : Nat) (T : Nat → Rg) (w : World) (h : RgsIn w.heap.size w a len cap T) :
    Calls Try.prog 26 #[.slice a len cap] w fun e w' => e = .returned (.bool (rises T len)) ∧ Below w.heap.size w w' :=
  (callsIn_wide (n := 3)).1 (rising_in 3 (Nat.le_refl _) a len cap T w h)

end Go.Proofs.Ytfnmpfaecafckaa

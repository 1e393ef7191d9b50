/-
  The document's own reader in its block (IsRR): Err, At, Left, Done, Fail, by contracts.
-/
import Derived.Test.YtnjbglnkhgholaaRd
namespace Go.Proofs.Ytnjbglnkhgholaa
open Go.RowKit
set_option linter.unusedVariables false

/-- A reader of the document in block b: its bytes l behind the slice v, the place p, the error e. -/
def IsRR (B b : Nat) (v : Value) (l : List UInt8) (p e : Int) (w : World) : Prop :=
  w.heap[b]? = some (.cells #[v, .int .i64 p, .int .i64 e] 79 (0, 0)) ∧ w.ownsRow B 5 1 v l.length (Lib.byteCells l) ∧ v.ownBlock ≠ some b

section
variable {B b : Nat} {v : Value} {l : List UInt8} {p e : Int} {w : World}
theorem IsRR.lt (h : IsRR B b v l p e w) : b < w.heap.size := (Array.getElem?_eq_some_iff.1 h.1).1
theorem IsRR.c0 (h : IsRR B b v l p e w) : w.cell? ⟨b, 0, none⟩ = some v := by rw [cell_of_row w b 0 _ _ _ h.1]; rfl
theorem IsRR.c1 (h : IsRR B b v l p e w) : w.cell? ⟨b, 1, none⟩ = some (.int .i64 p) := by rw [cell_of_row w b 1 _ _ _ h.1]; rfl
theorem IsRR.c2 (h : IsRR B b v l p e w) : w.cell? ⟨b, 2, none⟩ = some (.int .i64 e) := by rw [cell_of_row w b 2 _ _ _ h.1]; rfl
theorem IsRR.f1 (h : IsRR B b v l p e w) : w.frozen? ⟨b, 1, none⟩ = false := frozen_of_row w b 1 _ _ h.1
theorem IsRR.f2 (h : IsRR B b v l p e w) : w.frozen? ⟨b, 2, none⟩ = false := frozen_of_row w b 2 _ _ h.1
theorem IsRR.keep {S : Nat → Prop} {w' : World} (h : IsRR B b v l p e w) (k : Keeps S w w') (hb : ¬ S b) (hv : ∀ j, v.ownBlock = some j → ¬ S j) : IsRR B b v l p e w' :=
  ⟨(k.block b h.lt hb).trans h.1, ownsRow_keep h.2.1 k hv, h.2.2⟩
theorem own_setCell {a : Addr} {n : Nat} {xs : List Value} (h : w.ownsRow B 5 1 v n xs) (ha : v.ownBlock ≠ some a.block) (u : Value) : (w.setCell a u).ownsRow B 5 1 v n xs :=
  ownsRow_keep h ((Keeps.refl (fun k => k = a.block) w).setCell (fun _ => rfl) u) (fun j hj x => ha (by rw [hj, x]))
theorem IsRR.set1 (h : IsRR B b v l p e w) (q : Int) : IsRR B b v l q e (w.setCell ⟨b, 1, none⟩ (.int .i64 q)) :=
  ⟨by rw [heap_setCell_same w b 1 _ _ _ h.1]; rfl, own_setCell h.2.1 h.2.2 _, h.2.2⟩
theorem IsRR.set2 (h : IsRR B b v l p e w) (q : Int) : IsRR B b v l p q (w.setCell ⟨b, 2, none⟩ (.int .i64 q)) :=
  ⟨by rw [heap_setCell_same w b 2 _ _ _ h.1]; rfl, own_setCell h.2.1 h.2.2 _, h.2.2⟩
theorem IsRR.drewN (h : IsRR B b v l p e w) (n : Nat) : IsRR B b v l p e (w.drewN n) := h
/-- Its slice, written out. -/
theorem IsRR.form (h : IsRR B b v l p e w) : ∃ ra rc, v = .slice ra l.length rc ∧ l.length ≤ rc := by
  rcases h.2.1.2 with ⟨hv, h0⟩ | ⟨g, cap, cur, hv, _, _, hc, _⟩
  · exact ⟨none, 0, by rw [hv, h0], by omega⟩
  · exact ⟨_, _, hv, hc⟩
/-- A byte of it. -/
theorem IsRR.byte (h : IsRR B b v l p e w) (j : Nat) (hj : j < l.length) : ∃ g rc, v = .slice (some ⟨g, 0, none⟩) l.length rc ∧ w.cell? ⟨g, j, none⟩ = some (.int .u8 (l[j].toNat : Int)) := by
  rcases h.2.1.2 with ⟨hv, h0⟩ | ⟨g, cap, cur, hv, _⟩
  · omega
  · subst hv
    refine ⟨g, cap, rfl, ?_⟩
    rw [h.2.1.cellAt j (by omega)]
    simp [Lib.byteCells, hj]
end

set_option maxHeartbeats 400000 in
theorem rrerr_any (B b : Nat) (v : Value) (l : List UInt8) (p e : Int) (w : World) (h : IsRR B b v l p e w) :
    Calls Try.prog 59 #[.pointer (some ⟨b, 0, none⟩)] w fun r w' => r = .returned (.int .i64 e) ∧ w' = w := by
  have h2 := h.c2
  go_enter Try.func59, Try.ntmps59
  go_wp2
  go_ret
  exact ⟨rfl, rfl⟩


set_option maxHeartbeats 400000 in
theorem rrleft_any (B b : Nat) (v : Value) (l : List UInt8) (p e : Int) (w : World) (h : IsRR B b v l p e w) (h0 : 0 ≤ p) (hp : p ≤ (l.length : Int)) (hs : l.length ≤ 1099511627776) :
    Calls Try.prog 60 #[.pointer (some ⟨b, 0, none⟩)] w fun r w' => r = .returned (.int .i64 ((l.length : Int) - p)) ∧ ∃ n, w' = w.drewN n := by
  obtain ⟨ra, rc, rfl, hrc⟩ := h.form
  have h1 := h.c0
  have h2 := h.c1
  go_enter Try.func60, Try.ntmps60
  go_wp2
  go_quiet (fail)
  go_wp2
  go_ret
  exact ⟨rfl, _, rfl⟩

set_option maxHeartbeats 400000 in
theorem rrfail_any (B b : Nat) (v : Value) (l : List UInt8) (p e x : Int) (w : World) (h : IsRR B b v l p e w) :
    Calls Try.prog 58 #[.pointer (some ⟨b, 0, none⟩), .int .i64 x] w fun r w' => r = .returned (.tuple #[]) ∧ IsRR B b v l p (failOf e x) w' ∧ Keeps (fun k => k = b) w w' := by
  have h1 := h.c2
  have h2 := h.f2
  have H := aside h
  clear h
  by_cases h0 : e = 0
  · subst h0
    go_enter Try.func58, Try.ntmps58
    go_wp2
    go_end0
    exact ⟨rfl, by rw [show failOf 0 x = x from if_pos rfl]; exact H.out.set2 x, (Keeps.refl (fun k => k = b) w).setCell (p := ⟨b, 2, none⟩) (fun _ => rfl) _⟩
  · have hb : (e == 0) = false := by simp [h0]
    go_enter Try.func58, Try.ntmps58
    go_wp2
    go_end0
    exact ⟨rfl, by rw [show failOf e x = e from if_neg h0]; exact H.out, Keeps.refl _ _⟩

set_option maxHeartbeats 400000 in
theorem rrdone_any (B b : Nat) (v : Value) (l : List UInt8) (p e : Int) (w : World) (h : IsRR B b v l p e w) (h0 : 0 ≤ p) (hp : p ≤ (l.length : Int)) (hs : l.length ≤ 1099511627776) :
    Calls Try.prog 40 #[.pointer (some ⟨b, 0, none⟩)] w fun r w' => r = .returned (.int .i64 (doneOf ((l.length : Int) - p) e)) ∧ ∃ n, w' = w.drewN n := by
  have h2 := h.c2
  by_cases he : e = 0
  · subst he
    by_cases hl : 0 < (l.length : Int) - p
    · go_enter Try.func40, Try.ntmps40
      go_wp2_with (go_at_call 60; refine (rrleft_any B b v l p 0 _ h h0 hp hs).mono ?_; rintro e w' ⟨rfl, n, rfl⟩)
      go_ret
      exact ⟨by rw [doneOf, if_pos ⟨rfl, hl⟩]; rfl, _, rfl⟩
    · have h3 := fun n => (h.drewN n).c2
      go_enter Try.func40, Try.ntmps40
      go_wp2_with (go_at_call 60; refine (rrleft_any B b v l p 0 _ h h0 hp hs).mono ?_; rintro e w' ⟨rfl, n, rfl⟩)
      go_ret
      exact ⟨by rw [doneOf, if_neg (fun x => by omega)]; rfl, _, rfl⟩
  · have hb : (e == 0) = false := by simp [he]
    go_enter Try.func40, Try.ntmps40
    go_wp2
    go_ret
    exact ⟨by rw [doneOf, if_neg (fun x => he x.1)]; rfl, 0, rfl⟩

end Go.Proofs.Ytnjbglnkhgholaa

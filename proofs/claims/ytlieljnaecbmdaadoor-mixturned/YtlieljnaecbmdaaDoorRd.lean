/-
  The code's reader in its block (IsR): NewReader, Err, At, Left, Done, Fail, by contracts.
-/
import Derived.Test.YtlieljnaecbmdaaDoorMem
import Derived.Deep.QuietTactic
import Derived.BigQuiet
namespace Go.Proofs.YtlieljnaecbmdaaDoor
open Go.RowKit

/-- The slice value v reads as the bytes l in world w. -/
def Reads (w : World) (v : Value) (l : List UInt8) : Prop := ∀ n, (convert 59 9 v).run Tryd.prog (w.drewN n) = .ok (.string ⟨l.toArray⟩) (w.drewN n)

theorem Reads.now {w : World} {v : Value} {l : List UInt8} (h : Reads w v l) : (convert 59 9 v).run Tryd.prog w = .ok (.string ⟨l.toArray⟩) w := h 0

theorem reads_own {w : World} {B : Nat} {v : Value} {l : List UInt8} (hown : w.ownsRow B 5 1 v l.length (Lib.byteCells l)) : Reads w v l := fun n => conv_own (w.drewN n) B v l hown

/-- A reader of the code in block b: the text s, the place p, the error e. -/
def IsR (b : Nat) (s : ByteArray) (p e : Int) (w : World) : Prop := w.heap[b]? = some (.cells #[.string s, .int .i64 p, .int .i64 e] 71 (0, 0))

theorem IsR.lt {b : Nat} {s : ByteArray} {p e : Int} {w : World} (h : IsR b s p e w) : b < w.heap.size := (Array.getElem?_eq_some_iff.1 h).1
theorem IsR.c0 {b : Nat} {s : ByteArray} {p e : Int} {w : World} (h : IsR b s p e w) : w.cell? ⟨b, 0, none⟩ = some (.string s) := by rw [cell_of_row w b 0 _ _ _ h]; rfl
theorem IsR.c1 {b : Nat} {s : ByteArray} {p e : Int} {w : World} (h : IsR b s p e w) : w.cell? ⟨b, 1, none⟩ = some (.int .i64 p) := by rw [cell_of_row w b 1 _ _ _ h]; rfl
theorem IsR.c2 {b : Nat} {s : ByteArray} {p e : Int} {w : World} (h : IsR b s p e w) : w.cell? ⟨b, 2, none⟩ = some (.int .i64 e) := by rw [cell_of_row w b 2 _ _ _ h]; rfl
theorem IsR.f1 {b : Nat} {s : ByteArray} {p e : Int} {w : World} (h : IsR b s p e w) : w.frozen? ⟨b, 1, none⟩ = false := frozen_of_row w b 1 _ _ h
theorem IsR.f2 {b : Nat} {s : ByteArray} {p e : Int} {w : World} (h : IsR b s p e w) : w.frozen? ⟨b, 2, none⟩ = false := frozen_of_row w b 2 _ _ h
theorem IsR.set1 {b : Nat} {s : ByteArray} {p e : Int} {w : World} (h : IsR b s p e w) (q : Int) : IsR b s q e (w.setCell ⟨b, 1, none⟩ (.int .i64 q)) := by
  unfold IsR; rw [heap_setCell_same w b 1 _ _ _ h]; rfl
theorem IsR.set2 {b : Nat} {s : ByteArray} {p e : Int} {w : World} (h : IsR b s p e w) (q : Int) : IsR b s p q (w.setCell ⟨b, 2, none⟩ (.int .i64 q)) := by
  unfold IsR; rw [heap_setCell_same w b 2 _ _ _ h]; rfl
theorem IsR.keep {S : Nat → Prop} {b : Nat} {s : ByteArray} {p e : Int} {w w' : World} (h : IsR b s p e w) (k : Keeps S w w') (hb : ¬ S b) : IsR b s p e w' := (k.block b h.lt hb).trans h
theorem IsR.drewN {b : Nat} {s : ByteArray} {p e : Int} {w : World} (h : IsR b s p e w) (n : Nat) : IsR b s p e (w.drewN n) := h

set_option maxHeartbeats 400000 in
theorem newReader_any (v : Value) (l : List UInt8) (w : World) (h : Reads w v l) :
    Calls Tryd.prog 32 #[v] w fun e w' => e = .returned (.pointer (some ⟨w.heap.size, 0, none⟩)) ∧ w' = w.alloc (.cells #[.string ⟨l.toArray⟩, .int .i64 0, .int .i64 0] 71) := by
  have hcv := h.now
  go_enter Tryd.func32, Tryd.ntmps32
  go_wp2
  go_ret
  exact ⟨rfl, rfl⟩

theorem isR_new (w : World) (s : ByteArray) : IsR w.heap.size s 0 0 (w.alloc (.cells #[.string s, .int .i64 0, .int .i64 0] 71)) := heap_alloc_new w _



set_option maxHeartbeats 400000 in
theorem rleft_any (b : Nat) (s : ByteArray) (p e : Int) (w : World) (h : IsR b s p e w) (h0 : 0 ≤ p) (hp : p ≤ (s.size : Int)) (hs : s.size ≤ 1099511627776) :
    Calls Tryd.prog 36 #[.pointer (some ⟨b, 0, none⟩)] w fun r w' => r = .returned (.int .i64 ((s.size : Int) - p)) ∧ ∃ n, w' = w.drewN n := by
  have h1 := h.c0
  have h2 := h.c1
  go_enter Tryd.func36, Tryd.ntmps36
  go_wp2
  go_quiet (fail)
  go_wp2
  go_ret
  exact ⟨rfl, _, rfl⟩

/-- What Fail leaves. -/
def failOf (e x : Int) : Int := if e = 0 then x else e

set_option maxHeartbeats 400000 in
theorem rfail_any (b : Nat) (s : ByteArray) (p e x : Int) (w : World) (h : IsR b s p e w) :
    Calls Tryd.prog 37 #[.pointer (some ⟨b, 0, none⟩), .int .i64 x] w fun r w' => r = .returned (.tuple #[]) ∧ IsR b s p (failOf e x) w' ∧ Keeps (fun k => k = b) w w' := by
  have h1 := h.c2
  have h2 := h.f2
  have H := aside h
  clear h
  by_cases h0 : e = 0
  · subst h0
    go_enter Tryd.func37, Tryd.ntmps37
    go_wp2
    go_end0
    exact ⟨rfl, by rw [show failOf 0 x = x from if_pos rfl]; exact H.out.set2 x, (Keeps.refl (fun k => k = b) w).setCell (p := ⟨b, 2, none⟩) (fun _ => rfl) _⟩
  · have hb : (e == 0) = false := by simp [h0]
    go_enter Tryd.func37, Tryd.ntmps37
    go_wp2
    go_end0
    exact ⟨rfl, by rw [show failOf e x = e from if_neg h0]; exact H.out, Keeps.refl _ _⟩

/-- What Done tells. -/
def doneOf (left e : Int) : Int := if e = 0 ∧ 0 < left then 13 else e


end Go.Proofs.YtlieljnaecbmdaaDoor

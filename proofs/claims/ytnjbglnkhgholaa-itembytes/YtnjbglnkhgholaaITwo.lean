/-
  Two writers, the code's and the document's own, that share no memory; each may hold other bytes. And a list of entries that came in.
-/
import Derived.Test.YtnjbglnkhgholaaIPut
import Derived.Test.YtnjbglnkhgholaaWBytes
namespace Go.Proofs.Ytnjbglnkhgholaa
open Go.RowKit
set_option linter.unusedVariables false

theorem fresh_ne {w : World} {g g' : Option Nat} {b : Nat} (fr : Fresh w g g') (h : g ≠ some b) (hb : b < w.heap.size) : g' ≠ some b := by
  rcases fr with rfl | ⟨k, rfl, hk⟩
  · exact h
  · intro e; cases e; omega

structure TwoL (B bw bd : Nat) (gw gd : Option Nat) (lw ld : List UInt8) (w : World) : Prop where
  code : IsW 64 B bw gw lw w
  doc : IsW 70 B bd gd ld w
  ne : bw ≠ bd
  wd : gw ≠ some bd
  dw : gd ≠ some bw
  gg : ∀ k, gw = some k → gd ≠ some k

theorem TwoL.code_step {B bw bd : Nat} {gw gd gw' : Option Nat} {lw ld lw' : List UInt8} {w w' : World} (h : TwoL B bw bd gw gd lw ld w) (W' : IsW 64 B bw gw' lw' w') (fr : Fresh w gw gw') (k : Keeps (fun k => k = bw ∨ gw = some k) w w') : TwoL B bw bd gw' gd lw' ld w' :=
  ⟨W', h.doc.keep k (fun x => x.elim (fun x => h.ne x.symm) (fun x => h.wd x)) (fun j hj x => x.elim (fun x => h.dw (by rw [hj, x])) (fun x => h.gg j x hj)), h.ne, fresh_ne fr h.wd h.doc.lt, h.dw, fun q hq e => by
    rcases fr with e' | ⟨z, e', hz⟩
    · exact h.gg q (by rw [← e']; exact hq) e
    · have := (h.doc.row q e).2
      rw [hq] at e'
      cases e'
      omega⟩

theorem TwoL.doc_step {B bw bd : Nat} {gw gd gd' : Option Nat} {lw ld ld' : List UInt8} {w w' : World} (h : TwoL B bw bd gw gd lw ld w) (D' : IsW 70 B bd gd' ld' w') (fr : Fresh w gd gd') (k : Keeps (fun k => k = bd ∨ gd = some k) w w') : TwoL B bw bd gw gd' lw ld' w' :=
  ⟨h.code.keep k (fun x => x.elim (fun x => h.ne x) (fun x => h.dw x)) (fun j hj x => x.elim (fun x => h.wd (by rw [hj, x])) (fun x => h.gg j hj x)), D', h.ne, h.wd, fresh_ne fr h.dw h.code.lt, fun q hq e => by
    rcases fr with e' | ⟨z, e', hz⟩
    · exact h.gg q hq (by rw [← e']; exact e)
    · have := (h.code.row q hq).2
      rw [e] at e'
      cases e'
      omega⟩

theorem TwoL.code_below {B bw bd : Nat} {gw gd : Option Nat} {lw ld : List UInt8} {w w' : World} (h : TwoL B bw bd gw gd lw ld w) (k : Keeps (fun k => k = bw ∨ gw = some k) w w') (hB : B ≤ w.heap.size) : Below B w w' :=
  k.below hB (fun j hj h' => h'.elim (fun h' => by have := h.code.1; omega) (fun h' => by have := (h.code.row j h').1; omega))
theorem TwoL.doc_below {B bw bd : Nat} {gw gd : Option Nat} {lw ld : List UInt8} {w w' : World} (h : TwoL B bw bd gw gd lw ld w) (k : Keeps (fun k => k = bd ∨ gd = some k) w w') (hB : B ≤ w.heap.size) : Below B w w' :=
  k.below hB (fun j hj h' => h'.elim (fun h' => by have := h.doc.1; omega) (fun h' => by have := (h.doc.row j h').1; omega))

set_option maxHeartbeats 400000 in
theorem newWriterRef_any (w : World) :
    Calls Try.prog 32 #[] w fun e w' => e = .returned (.pointer (some ⟨w.heap.size, 0, none⟩)) ∧ w' = w.alloc (.cells #[.slice none 0 0] 70) := by
  go_enter Try.func32, Try.ntmps32
  go_wp2
  go_ret
  exact ⟨rfl, rfl⟩

set_option maxHeartbeats 400000 in
theorem sameB_any (a b : Value) (la lb : List UInt8) (w : World) (ha : Reads w a la) (hb : Reads w b lb) :
    Calls Try.prog 24 #[a, b] w fun e w' => e = .returned (.bool (la == lb)) ∧ w' = w := by
  have h1 := ha.now
  have h2 := hb.now
  go_enter Try.func24, Try.ntmps24
  go_wp2
  go_ret
  exact ⟨rfl, rfl⟩

/-- A list of entries that came in. -/
def EntsIn (w : World) (a : Option Addr) (len cap : Nat) (T : Nat → En) : Prop :=
  len ≤ cap ∧ cap ≤ maxLen ∧ (len = 0 ∨ ∃ b off, a = some ⟨b, off, none⟩ ∧ b < w.heap.size ∧ ∀ i, i < len →
    w.cell? ⟨b, off + i * 5, none⟩ = some (.string (T i).k) ∧ w.cell? ⟨b, off + i * 5 + 1, none⟩ = some (.int .i64 (T i).c) ∧ w.cell? ⟨b, off + i * 5 + 2, none⟩ = some (.int .i64 (T i).n) ∧ w.cell? ⟨b, off + i * 5 + 3, none⟩ = some (.string (T i).v) ∧ w.cell? ⟨b, off + i * 5 + 4, none⟩ = some (.bool (T i).d))

end Go.Proofs.Ytnjbglnkhgholaa

/-
  Differ and Lacks, by the lists that they are handed and hand out.
-/
import Derived.Test.YtgailbfoicoaiaaMgCalls
import Derived.Test.YtgailbfoicoaiaaMgDif
namespace Go.Proofs.Ytgailbfoicoaiaa
open Go.RowKit
set_option linter.unusedVariables false

/-- Texts that a call has made. -/
structure Txs (w : World) (B : Nat) (a : Option Addr) (n c : Nat) (l : List ByteArray) : Prop where
  row : w.ownsRow B 9 1 (.slice a n c) n (strC l)
  len : l.length = n
theorem Txs.keep {w w' : World} {B : Nat} {a : Option Addr} {n c : Nat} {l : List ByteArray} (h : Txs w B a n c l) (b : Below w.heap.size w w') : Txs w' B a n c l := ⟨own_on h.row b, h.len⟩
theorem diffL_ok {a b : Option Addr} {la ca lb cb : Nat} {Ma Mb : List En} {w : World} (ha : Lst w a la ca Ma) (hb : Lst w b lb cb Mb) (ma : MapL Ma) (mb : MapL Mb) (hl : Ma.length + Mb.length ≤ 2147483648) :
    Calls Try.prog 14 #[.slice a la ca, .slice b lb cb] w fun e w' => ∃ ad n cp, e = .returned (.tuple #[.slice ad n cp, .int .i64 0]) ∧ Txs w' w.heap.size ad n cp (dfL Ma Mb) ∧ Below w.heap.size w w' := by
  have l1 := ha.len
  have l2 := hb.len
  obtain ⟨A, eA, rA⟩ := ha
  obtain ⟨B, eB, rB⟩ := hb
  refine (mdiff_any a la ca A b lb cb B w eA eB (by omega)).mono ?_
  rintro e w' ⟨v, rfl, h1, h2⟩
  have h0 := ck2_maps rA rB ma mb
  rw [outL_ok _ h0, rA, rB, dfP_prs] at h1
  rw [h0]
  obtain ⟨ad, cp, rfl, -⟩ := own_slice h1
  exact ⟨ad, _, cp, rfl, ⟨h1, rfl⟩, h2⟩

end Go.Proofs.Ytgailbfoicoaiaa

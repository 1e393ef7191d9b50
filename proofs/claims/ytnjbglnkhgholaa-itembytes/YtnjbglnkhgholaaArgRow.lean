/-
  A slice of bytes that came in as an argument: what it reads as, now and in every later world in which old memory stands.
-/
import Derived.Test.YtnjbglnkhgholaaRd
namespace Go.Proofs.Ytnjbglnkhgholaa
open Go.RowKit
set_option linter.unusedVariables false

/-- What the walk is told of a slice of bytes that came in: it is nil; or it leads to a row of 'cap' cells, the numbers 'zs', the first 'len' its elements. -/
def IsRow (w : World) (a : Option Addr) (len cap : Nat) (zs : List Int) : Prop :=
  (a = none ∧ len = 0 ∧ cap = 0 ∧ zs = []) ∨
  ∃ x, a = some x ∧ len ≤ cap ∧ cap ≤ maxLen ∧ zs.length = cap ∧ (∀ i, i < zs.length → w.cell? (x.add i) = some (.int .u8 (zs.getD i 0))) ∧ ∀ n ∈ zs, (Lit.int .u8 n).wf = true

/-- The bytes of such numbers. -/
def bytesOf (zs : List Int) : List UInt8 := zs.map fun z => UInt8.ofNat z.toNat

theorem bytesOf_length (zs : List Int) : (bytesOf zs).length = zs.length := by simp [bytesOf]

theorem wf_u8 {z : Int} (h : (Lit.int .u8 z).wf = true) : 0 ≤ z ∧ z ≤ 255 := by
  simp [Lit.wf] at h
  first | exact h | omega

theorem reads_row {w w' : World} {x : Addr} {n len cap : Nat} {zs : List Int} (hn : n ≤ zs.length) (hb : x.block < w.heap.size) (bel : Below w.heap.size w w')
    (hc : ∀ i, i < zs.length → w.cell? (x.add i) = some (.int .u8 (zs.getD i 0))) (hw : ∀ n ∈ zs, (Lit.int .u8 n).wf = true) : Reads w' (.slice (some x) n cap) (bytesOf (zs.take n)) := by
  intro m
  have hlen : (bytesOf (zs.take n)).length = n := by rw [bytesOf_length, List.length_take]; omega
  have key := run_convert_bytes_back (P := Try.prog) (w'.drewN m) 40 9 5 x cap (bytesOf (zs.take n)) Try.underlying40 Try.underlying5 Try.underlying9 (fun j hj => by
    have hj' : j < n := by omega
    have hjz : j < zs.length := by omega
    have e1 : (w'.drewN m).cell? (x.add j) = w.cell? (x.add j) := by
      show w'.cell? (x.add j) = _
      exact bel.cell (by rw [show (x.add j).block = x.block from by unfold Addr.add; split <;> rfl]; exact hb)
    rw [e1, hc j hjz]
    have hz := wf_u8 (hw zs[j] (List.getElem_mem hjz))
    have e2 : (bytesOf (zs.take n))[j] = UInt8.ofNat (zs[j]).toNat := by simp [bytesOf]
    rw [e2, UInt8.toNat_ofNat', Nat.mod_eq_of_lt (show (zs[j]).toNat < 2 ^ 8 from by omega)]
    simp [hjz]
    omega)
  rw [hlen] at key
  exact key

theorem reads_nil (w : World) : Reads w (.slice none 0 0) [] := by
  intro m
  exact conv_own (w.drewN m) 0 (.slice none 0 0) [] (World.ownsRow_nil _ _ _ _)

end Go.Proofs.Ytnjbglnkhgholaa

/-
  Word of the code's reader: broken or with too few bytes left, it answers 0 and stays; else the number of the eight bytes at its place, the highest first.
-/
import Derived.Test.YtnjbglnkhgholaaRNum
namespace Go.Proofs.Ytnjbglnkhgholaa
open Go.RowKit
set_option linter.unusedVariables false

/-- Bytes as one number, the highest first. -/
def valB (l : List UInt8) : Nat := l.foldl (fun a c => a * 256 + c.toNat) 0

theorem valB_snoc (l : List UInt8) (c : UInt8) : valB (l ++ [c]) = valB l * 256 + c.toNat := by simp [valB]

theorem valB_lt (l : List UInt8) : valB l < 256 ^ l.length := by
  suffices h : ∀ (l : List UInt8) (a n : Nat), a < 256 ^ n → l.foldl (fun a c => a * 256 + c.toNat) a < 256 ^ (n + l.length) by
    simpa [valB] using h l 0 0 (by simp)
  intro l
  induction l with
  | nil => intro a n h; simpa using h
  | cons c r ih =>
    intro a n h
    simp only [List.foldl_cons, List.length_cons]
    have := ih (a * 256 + c.toNat) (n + 1) (by have := c.toNat_lt; rw [Nat.pow_succ]; omega)
    rwa [show n + (r.length + 1) = n + 1 + r.length from by omega]



def RWordRel (b : Nat) (s : ByteArray) (p : Nat) (w : World) (u i : Value) (wr : World) : Prop :=
  ∃ j acc : Nat, u = .int .u64 (acc : Int) ∧ i = .int .i64 (j : Int) ∧ j ≤ 8 ∧ acc = valB ((s.data.toList.drop p).take j) ∧ IsR b s ((p : Int) + (j : Int)) 0 wr ∧ Keeps (fun x => x = b) w wr


end Go.Proofs.Ytnjbglnkhgholaa

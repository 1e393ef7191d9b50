/-
  Small laws that the laws of bags share.
-/
import Derived.Test.YteaaamhojiognaaBgS
namespace Go.Proofs.Yteaaamhojiognaa
open Go.RowKit
set_option linter.unusedVariables false

theorem amgs (n : Nat) (hn : 0 < n) (hx : (n : Int) ≤ 9223372036854775807) (p : Int) (W : World) : Calls Try.prog 10 #[.int .i64 p, .int .i64 (n : Int)] W fun e w' => e = .returned (.int .i64 (amg p (n : Int))) ∧ w' = W := among18 p n W hn hx
theorem amg512 (p : Int) (W : World) : Calls Try.prog 10 #[.int .i64 p, .int .i64 512] W fun e w' => e = .returned (.int .i64 (amg p 512)) ∧ w' = W := among18 p 512 W (by omega) (by omega)
theorem amg4 (p : Int) (W : World) : Calls Try.prog 10 #[.int .i64 p, .int .i64 4] W fun e w' => e = .returned (.int .i64 (amg p 4)) ∧ w' = W := among18 p 4 W (by omega) (by omega)
theorem five {w : World} {i : Nat} {a b c d e : Value} {T : TypeId} (h : w.heap[i]? = some (.cells #[a, b, c, d, e] T (0, 0))) : w.cell? ⟨i, 0, none⟩ = some a ∧ w.cell? ⟨i, 1, none⟩ = some b ∧ w.cell? ⟨i, 2, none⟩ = some c ∧ w.cell? ⟨i, 3, none⟩ = some d ∧ w.cell? ⟨i, 4, none⟩ = some e := by
  simp [World.cell?, h]
theorem twoB {w : World} {i : Nat} {a b : Value} {T : TypeId} (h : w.heap[i]? = some (.cells #[a, b] T (0, 0))) : w.cell? ⟨i, 0, none⟩ = some a ∧ w.cell? ⟨i, 1, none⟩ = some b := by
  simp [World.cell?, h]
theorem byIn_conv {w : World} {a : Option Addr} {len cap : Nat} {L : List UInt8} (h : ByIn w a len cap L) : (convert 32 9 (.slice a len cap)).run Try.prog w = .ok (.string ⟨L.toArray⟩) w := by
  obtain ⟨h1, _, _, h4⟩ := h
  rcases h4 with ⟨rfl, rfl, rfl⟩ | ⟨x, rfl, hc⟩
  · obtain rfl : L = [] := List.length_eq_zero_iff.1 h1
    exact conv_own w 0 (.slice none 0 0) [] (World.ownsRow_nil _ _ _ _)
  · have key := run_convert_bytes_back (P := Try.prog) w 32 9 5 x cap L Try.underlying32 Try.underlying5 Try.underlying9 (fun j hj => by
      refine hc j _ ?_
      simp [Lib.byteCells, hj])
    rw [h1] at key
    exact key
end Go.Proofs.Yteaaamhojiognaa

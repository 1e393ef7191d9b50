/-
  A slice of bytes that came in, with its size.
-/
import Derived.Test.YtbnppmkdhnpdfaaBy22
import Derived.Test.YtbnppmkdhnpdfaaBy23
namespace Go.Proofs.Ytbnppmkdhnpdfaa
open Go.ChangeShapes Go.WideShapes Go.ChangeAt Go.RowKit
set_option linter.unusedVariables false
variable {H : Type} {enc : TypeId × Value → H} {W : World}
theorem byte_bytes : Try.prog.bytesOf 5 = 1 := by kernel_rfl
theorem bytes_open {fuel : Nat} {a : Option Addr} {len cap : Nat} {d : DataW H} {ps : List MemPlace}
    (hf : DataW.trod enc Try.prog W 0 (fun _ => true) true fuel 30 [.slice a len cap] = some (d, ps)) (hz : ∀ n ∈ d.weights Try.prog 30, n ≤ reachBytes) :
    ∃ L, ArgB W a len cap L ∧ len ≤ 140737488351232 := by
  have hlen : len ≤ 140737488351232 := by
    rcases Deep.open_slice Try.underlying30 hf with ⟨hcs, _⟩ | ⟨x, l, c, m, n, D, Pl, hcs, hb, hl, hm, hmm, hx, hel⟩
    · simp only [List.cons.injEq, Value.slice.injEq, and_true] at hcs
      obtain ⟨rfl, rfl, rfl⟩ := hcs
      omega
    · simp only [List.cons.injEq, Value.slice.injEq, and_true] at hcs
      obtain ⟨rfl, rfl, rfl⟩ := hcs
      simp only [Prod.mk.injEq] at hx
      have hd := hx.1
      simp only [if_true] at hmm
      subst hmm
      have h1 := hz _ (by rw [hd]; simp only [DataW.weights, Try.underlying30]; exact List.mem_cons_self)
      rw [byte_bytes] at h1
      simp only [List.length_map, List.length_range] at h1
      have : reachBytes = 140737488351232 := by decide
      omega
  obtain ⟨y, w⟩ : ∃ zs, IsRow W a len cap zs := by
    rcases open_ints Try.underlying30 Try.underlying5 (by kernel_rfl) hf with ⟨hcs, _⟩ | ⟨x, l, c, zs, hcs, _, hl, hm, hz, _, hcell, hwz⟩
    · simp at hcs
      obtain ⟨rfl, rfl, rfl⟩ := hcs
      exact ⟨[], .inl ⟨rfl, rfl, rfl, rfl⟩⟩
    · simp at hcs
      obtain ⟨rfl, rfl, rfl⟩ := hcs
      exact ⟨zs, .inr ⟨_, rfl, hl, hm, by simpa using hz, hcell, hwz⟩⟩
  exact ⟨_, ArgB.of_row w, hlen⟩
end Go.Proofs.Ytbnppmkdhnpdfaa

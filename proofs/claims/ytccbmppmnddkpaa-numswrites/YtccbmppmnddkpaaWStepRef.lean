/-
  One step laid down (writeRef): a number, a text, a word, a flag, or nothing, by its kind; nothing turned but the writer.
-/
import Derived.Test.YtccbmppmnddkpaaWStep
import Derived.Test.YtccbmppmnddkpaaWTextRef
import Derived.Test.YtccbmppmnddkpaaWWordRef
namespace Go.Proofs.Ytccbmppmnddkpaa
open Go.RowKit
set_option linter.unusedVariables false

set_option maxHeartbeats 1600000 in
set_option maxRecDepth 100000 in
theorem writeRef_any (B b : Nat) (g : Option Nat) (l : List UInt8) (t : Stp) (w : World) (hW : IsW 38 B b g l w) (hB : B ≤ w.heap.size) (ht : t.Ok) (hl : l.length ≤ 17592186044416) :
    Calls Try.prog 14 #[.pointer (some ⟨b, 0, none⟩), t.val] w fun e w' => e = .returned (.tuple #[]) ∧
      ∃ g', IsW 38 B b g' (l ++ t.bytes) w' ∧ Fresh w g g' ∧ Keeps (fun k => k = b ∨ g = some k) w w' := by
  obtain ⟨kind, n, s, u, is⟩ := t
  obtain ⟨hn0, hn1, hs, hu⟩ := ht
  simp only at hn0 hn1 hs hu
  unfold Stp.val
  simp only
  have hWa := fun o => hW.keep ((Keeps.refl (fun _ => False) w).alloc o) (fun h => h) (fun _ _ h => h)
  have hka := fun o => (Keeps.refl (fun k => k = b ∨ g = some k) w).alloc o
  have hBa : ∀ o, B ≤ (w.alloc o).heap.size := fun o => by simp; omega
  have HWA := aside hWa
  have HKA := aside hka
  have HU := aside hu
  clear hWa hka hW hu
  by_cases h0 : kind = 0
  · subst h0
    go_enter Try.func14, Try.ntmps14
    go_wp2_with fail
    refine (wnumRef_any B b g l n _ (HWA.out _) (hBa _) hn1 hn0 (by omega)).mono ?_
    rintro e w1 ⟨rfl, g1, W1, fr1, k1⟩
    go_wp2
    go_end0
    exact ⟨rfl, g1, W1, fr1.of_alloc, (HKA.out _).trans k1⟩
  · have b0 : (kind == 0) = false := by rw [beq_eq_false_iff_ne]; exact h0
    by_cases h1 : kind = 1
    · subst h1
      go_enter Try.func14, Try.ntmps14
      go_wp2_with fail
      refine (wtextRef_any B b g l s _ (HWA.out _) (hBa _) (by omega) (by omega)).mono ?_
      rintro e w1 ⟨rfl, g1, W1, fr1, k1⟩
      go_wp2
      go_end0
      exact ⟨rfl, g1, W1, fr1.of_alloc, (HKA.out _).trans k1⟩
    · have b1 : (kind == 1) = false := by rw [beq_eq_false_iff_ne]; exact h1
      by_cases h2 : kind = 2
      · subst h2
        go_enter Try.func14, Try.ntmps14
        go_wp2_with fail
        refine (wwordRef_any B b g l u _ (HWA.out _) (hBa _) HU.out (by omega)).mono ?_
        rintro e w1 ⟨rfl, g1, W1, fr1, k1⟩
        go_wp2
        go_end0
        exact ⟨rfl, g1, W1, fr1.of_alloc, (HKA.out _).trans k1⟩
      · have b2 : (kind == 2) = false := by rw [beq_eq_false_iff_ne]; exact h2
        by_cases h3 : kind = 3
        · subst h3
          go_enter Try.func14, Try.ntmps14
          go_wp2_with fail
          refine (wflagRef_any B b g l is _ (HWA.out _) (hBa _) (by omega)).mono ?_
          rintro e w1 ⟨rfl, g1, W1, fr1, k1⟩
          go_wp2
          go_end0
          exact ⟨rfl, g1, W1, fr1.of_alloc, (HKA.out _).trans k1⟩
        · have b3 : (kind == 3) = false := by rw [beq_eq_false_iff_ne]; exact h3
          have hbytes : Hid ((⟨kind, n, s, u, is⟩ : Stp).bytes = []) := by
            show (⟨kind, n, s, u, is⟩ : Stp).bytes = []
            simp [Stp.bytes, h0, h1, h2, h3]
          clear h0 h1 h2 h3
          go_enter Try.func14, Try.ntmps14
          go_wp2
          go_end0
          exact ⟨rfl, g, (HWA.out _).of_len (by rw [hbytes.out, List.append_nil]), .inl rfl, HKA.out _⟩

end Go.Proofs.Ytccbmppmnddkpaa

/-
  One step laid down (write): a number, a text, a word, a flag, or nothing, by its kind; nothing turned but the writer.
-/
import Derived.Test.YtccbmppmnddkpaaWText
import Derived.Test.YtccbmppmnddkpaaWWord
namespace Go.Proofs.Ytccbmppmnddkpaa
open Go.RowKit
set_option linter.unusedVariables false

/-- A step of a law: its kind, its number, its text, its word, its flag. -/
structure Stp where
  kind : Int
  n : Int
  s : ByteArray
  u : Nat
  is : Bool

/-- It as a Go value. -/
def Stp.val (t : Stp) : Value := .agg #[.int .i64 t.kind, .int .i64 t.n, .string t.s, .int .u64 (t.u : Int), .bool t.is]

/-- It fits its types, and its text is not too long. -/
structure Stp.Ok (t : Stp) : Prop where
  lo : -9223372036854775808 ≤ t.n
  hi : t.n ≤ 9223372036854775807
  len : t.s.size ≤ 2147483647
  word : t.u < 18446744073709551616

/-- What it lays down. -/
def Stp.bytes (t : Stp) : List UInt8 :=
  if t.kind = 0 then Nm.enc 8 (up t.n) else if t.kind = 1 then Nm.enc 8 t.s.size ++ t.s.data.toList else if t.kind = 2 then wordB t.u else if t.kind = 3 then flagB t.is else []

theorem Fresh.of_alloc {w : World} {o : Obj} {g g' : Option Nat} (h : Fresh (w.alloc o) g g') : Fresh w g g' := by
  rcases h with h | ⟨k, h, hk⟩
  · exact .inl h
  · exact .inr ⟨k, h, by simp at hk; omega⟩

set_option maxHeartbeats 1600000 in
set_option maxRecDepth 100000 in
theorem write_any (B b : Nat) (g : Option Nat) (l : List UInt8) (t : Stp) (w : World) (hW : IsW 60 B b g l w) (hB : B ≤ w.heap.size) (ht : t.Ok) (hl : l.length ≤ 17592186044416) :
    Calls Try.prog 13 #[.pointer (some ⟨b, 0, none⟩), t.val] w fun e w' => e = .returned (.tuple #[]) ∧
      ∃ g', IsW 60 B b g' (l ++ t.bytes) w' ∧ Fresh w g g' ∧ Keeps (fun k => k = b ∨ g = some k) w w' := by
  obtain ⟨kind, n, s, u, is⟩ := t
  obtain ⟨hn0, hn1, hs, hu⟩ := ht
  simp only at hn0 hn1 hs hu
  unfold Stp.val
  simp only
  have hWa := fun o => hW.keep ((Keeps.refl (fun _ => False) w).alloc o) (fun h => h) (fun _ _ h => h)
  have hka := fun o => (Keeps.refl (fun k => k = b ∨ g = some k) w).alloc o
  have hBa : ∀ o, B ≤ (w.alloc o).heap.size := fun o => by simp; omega
  have HWA := aside hWa
  have HKA := aside hka
  have HU := aside hu
  clear hWa hka hW hu
  by_cases h0 : kind = 0
  · subst h0
    go_enter Try.func13, Try.ntmps13
    go_wp2_with fail
    refine (wnum_any B b g l n _ (HWA.out _) (hBa _) hn1 hn0 (by omega)).mono ?_
    rintro e w1 ⟨rfl, g1, W1, fr1, k1⟩
    go_wp2
    go_end0
    exact ⟨rfl, g1, W1, fr1.of_alloc, (HKA.out _).trans k1⟩
  · have b0 : (kind == 0) = false := by rw [beq_eq_false_iff_ne]; exact h0
    by_cases h1 : kind = 1
    · subst h1
      go_enter Try.func13, Try.ntmps13
      go_wp2_with fail
      refine (wtext_any B b g l s _ (HWA.out _) (hBa _) (by omega) (by omega)).mono ?_
      rintro e w1 ⟨rfl, g1, W1, fr1, k1⟩
      go_wp2
      go_end0
      exact ⟨rfl, g1, W1, fr1.of_alloc, (HKA.out _).trans k1⟩
    · have b1 : (kind == 1) = false := by rw [beq_eq_false_iff_ne]; exact h1
      by_cases h2 : kind = 2
      · subst h2
        go_enter Try.func13, Try.ntmps13
        go_wp2_with fail
        refine (wword_any B b g l u _ (HWA.out _) (hBa _) HU.out (by omega)).mono ?_
        rintro e w1 ⟨rfl, g1, W1, fr1, k1⟩
        go_wp2
        go_end0
        exact ⟨rfl, g1, W1, fr1.of_alloc, (HKA.out _).trans k1⟩
      · have b2 : (kind == 2) = false := by rw [beq_eq_false_iff_ne]; exact h2
        by_cases h3 : kind = 3
        · subst h3
          go_enter Try.func13, Try.ntmps13
          go_wp2_with fail
          refine (wflag_any B b g l is _ (HWA.out _) (hBa _) (by omega)).mono ?_
          rintro e w1 ⟨rfl, g1, W1, fr1, k1⟩
          go_wp2
          go_end0
          exact ⟨rfl, g1, W1, fr1.of_alloc, (HKA.out _).trans k1⟩
        · have b3 : (kind == 3) = false := by rw [beq_eq_false_iff_ne]; exact h3
          have hbytes : Hid ((⟨kind, n, s, u, is⟩ : Stp).bytes = []) := by
            show (⟨kind, n, s, u, is⟩ : Stp).bytes = []
            simp [Stp.bytes, h0, h1, h2, h3]
          clear h0 h1 h2 h3
          go_enter Try.func13, Try.ntmps13
          go_wp2
          go_end0
          exact ⟨rfl, g, (HWA.out _).of_len (by rw [hbytes.out, List.append_nil]), .inl rfl, HKA.out _⟩

end Go.Proofs.Ytccbmppmnddkpaa

/-
  Num of the code's reader: broken, it answers 0 and stays; else it answers what the bytes at its place say (Nm.first), moves on by as many, and keeps the error.
-/
import Derived.Test.YtnjbglnkhgholaaFirst
namespace Go.Proofs.Ytnjbglnkhgholaa
open Go.RowKit
set_option linter.unusedVariables false

theorem extract_drop (s : ByteArray) (p : Nat) (hp : p ≤ s.size) : (s.extract p s.size).data.toList = s.data.toList.drop p := by
  rw [ByteArray.data_extract]
  show (s.data.extract p s.data.size).toList = _
  rw [Array.toList_extract, List.extract_eq_take_drop, List.take_of_length_le (by simp)]

theorem extract_size (s : ByteArray) (p : Nat) : (s.extract p s.size).size = s.size - p := by simp

set_option maxHeartbeats 400000 in
theorem rnum_broken (b : Nat) (s : ByteArray) (p e most : Int) (w : World) (h : IsR b s p e w) (he : e ≠ 0) :
    Calls Try.prog 50 #[.pointer (some ⟨b, 0, none⟩), .int .i64 most] w fun r w' => r = .returned (.int .i64 0) ∧ w' = w := by
  have h2 := h.c2
  have hb : (e != 0) = true := by simp [he]
  go_enter Try.func50, Try.ntmps50
  go_wp2
  go_ret
  exact ⟨rfl, rfl⟩

/-- firstNum at a part of the text, its three answers named. -/
theorem firstNum_at (s : ByteArray) (p : Nat) (hp : p ≤ s.size) (most n k e : Int) (hF : Nm.first (s.data.toList.drop p) most = (n, k, e)) (w : World) (hs : s.size ≤ 1099511627776) :
    Calls Try.prog 61 #[.string (s.extract p s.size), .int .i64 most] w fun r w' => r = .returned (.tuple #[.int .i64 n, .int .i64 k, .int .i64 e]) ∧ w' = w := by
  have := firstNum_any (s.extract p s.size) most w (by rw [extract_size]; omega)
  rw [extract_drop s p hp, hF] at this
  exact this

set_option maxHeartbeats 1600000 in
set_option maxRecDepth 100000 in
theorem rnum_any (b : Nat) (s : ByteArray) (p : Nat) (most n k e : Int) (w : World) (h : IsR b s (p : Int) 0 w) (hp : p ≤ s.size) (hs : s.size ≤ 1099511627776) (hF : Nm.first (s.data.toList.drop p) most = (n, k, e)) :
    Calls Try.prog 50 #[.pointer (some ⟨b, 0, none⟩), .int .i64 most] w fun r w' => r = .returned (.int .i64 n) ∧ IsR b s ((p : Int) + k) e w' ∧ Keeps (fun x => x = b) w w' := by
  have hk : 0 ≤ k ∧ k ≤ 9 := by
    obtain ⟨n', k', e', hf, _, h9, _⟩ := Nm.first_form (s.data.toList.drop p) most
    rw [hF] at hf
    simp only [Prod.mk.injEq] at hf
    omega
  have C := aside (fun w => firstNum_at s p hp most n k e hF w hs)
  have H := aside h
  have h0 := h.c0
  have h1 := h.c1
  have h2 := h.c2
  have hp0 : (0 : Int) ≤ (p : Int) := by omega
  have hp1 : (p : Int) ≤ (s.size : Int) := by omega
  have hk0 := hk.1
  have hk9 := hk.2
  have hf1 := h.f1
  clear hF hk h
  go_enter Try.func50, Try.ntmps50
  go_wp2_with fail
  go_quiet ((go_at_call 61; exact Calls.quiet_of_same (C.out _)))
  go_wp2_with fail
  refine (rfail_any b s ((p : Int) + k) 0 e _ ?hh).mono ?_
  case hh => exact (H.out.drewN _).set1 ((p : Int) + k)
  rintro r w1 ⟨rfl, hr, hkp⟩
  go_wp2
  go_ret
  refine ⟨rfl, by simpa [failOf] using hr, ?_⟩
  exact (((Keeps.refl (fun x => x = b) w).drewN _).setCell (p := ⟨b, 1, none⟩) (fun _ => rfl) _).trans hkp

end Go.Proofs.Ytnjbglnkhgholaa

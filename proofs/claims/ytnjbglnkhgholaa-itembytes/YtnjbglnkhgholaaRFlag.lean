/-
  Flag of the code's reader: broken, it answers false and stays; else what the byte at its place says.
-/
import Derived.Test.YtnjbglnkhgholaaRNum
namespace Go.Proofs.Ytnjbglnkhgholaa
open Go.RowKit
set_option linter.unusedVariables false

set_option maxHeartbeats 1600000 in
set_option maxRecDepth 100000 in
/-- Nothing is left: broken before or now. -/
theorem rflag_end (b : Nat) (s : ByteArray) (p : Nat) (e : Int) (w : World) (h : IsR b s (p : Int) e w) (hp : p = s.size) (hs : s.size ≤ 1099511627776) :
    Calls Try.prog 51 #[.pointer (some ⟨b, 0, none⟩)] w fun r w' => r = .returned (.bool false) ∧ IsR b s (p : Int) (failOf e 10) w' ∧ Keeps (fun x => x = b) w w' := by
  have H := aside h
  have hl : (s.size : Int) - (p : Int) = 0 := by omega
  have hne : (failOf e 10 != 0) = true := by
    unfold failOf
    split
    · rfl
    · rw [bne_iff_ne]; assumption
  have HL := aside hl
  clear h hl
  go_enter Try.func51, Try.ntmps51
  go_wp2_with fail
  refine (rleft_any b s (p : Int) e _ H.out (by omega) (by omega) hs).mono ?_
  rintro r w1 ⟨rfl, nq, rfl⟩
  rw [HL.out]
  go_wp2_with fail
  refine (rfail_any b s (p : Int) e 10 _ (by exact H.out)).mono ?_
  rintro r w2 ⟨rfl, hr, hk⟩
  have h2 := hr.c2
  have HR := aside hr
  clear hr
  go_wp2
  go_ret
  exact ⟨rfl, HR.out, ((Keeps.refl (fun x => x = b) w).drewN _).trans hk⟩

set_option maxHeartbeats 1600000 in
set_option maxRecDepth 100000 in
/-- A byte above 1. -/
theorem rflag_form (b : Nat) (s : ByteArray) (p : Nat) (e : Int) (c : UInt8) (w : World) (h : IsR b s (p : Int) e w) (hp : p < s.size) (hc : s[p] = c) (h1 : 1 < c.toNat) (hs : s.size ≤ 1099511627776) :
    Calls Try.prog 51 #[.pointer (some ⟨b, 0, none⟩)] w fun r w' => r = .returned (.bool false) ∧ IsR b s (p : Int) (failOf e 11) w' ∧ Keeps (fun x => x = b) w w' := by
  have H := aside h
  have hix := idx_str' s p hp (p : Int) rfl
  rw [hc] at hix
  have hp0 : (0 : Int) ≤ (p : Int) := by omega
  have hp1 : (p : Int) < (s.size : Int) := by omega
  have hl : ((s.size : Int) - (p : Int) == 0) = false := by rw [beq_eq_false_iff_ne]; omega
  have g1 : (1 : Int) < (c.toNat : Int) := by omega
  have hne : (failOf e 11 != 0) = true := by
    unfold failOf
    split
    · rfl
    · rw [bne_iff_ne]; assumption
  have h0 := h.c0
  have h1' := h.c1
  clear h hc h1 hp
  go_enter Try.func51, Try.ntmps51
  go_wp2_with fail
  refine (rleft_any b s (p : Int) e _ H.out hp0 (by omega) hs).mono ?_
  rintro r w1 ⟨rfl, nq, rfl⟩
  go_wp2_with fail
  go_quiet (fail)
  go_wp2_with fail
  refine (rfail_any b s (p : Int) e 11 _ (by exact H.out)).mono ?_
  rintro r w2 ⟨rfl, hr, hk⟩
  have h2 := hr.c2
  have HR := aside hr
  clear hr
  go_wp2
  go_ret
  exact ⟨rfl, HR.out, ((Keeps.refl (fun x => x = b) w).drewN _).trans hk⟩

set_option maxHeartbeats 1600000 in
set_option maxRecDepth 100000 in
/-- Broken before, a byte that may be. -/
theorem rflag_broken (b : Nat) (s : ByteArray) (p : Nat) (e : Int) (c : UInt8) (w : World) (h : IsR b s (p : Int) e w) (he : e ≠ 0) (hp : p < s.size) (hc : s[p] = c) (h1 : ¬ 1 < c.toNat) (hs : s.size ≤ 1099511627776) :
    Calls Try.prog 51 #[.pointer (some ⟨b, 0, none⟩)] w fun r w' => r = .returned (.bool false) ∧ IsR b s (p : Int) e w' ∧ Keeps (fun x => x = b) w w' := by
  have H := aside h
  have hix := idx_str' s p hp (p : Int) rfl
  rw [hc] at hix
  have hp0 : (0 : Int) ≤ (p : Int) := by omega
  have hp1 : (p : Int) < (s.size : Int) := by omega
  have hl : ((s.size : Int) - (p : Int) == 0) = false := by rw [beq_eq_false_iff_ne]; omega
  have g1 : (c.toNat : Int) ≤ 1 := by omega
  have hne : (e != 0) = true := by rw [bne_iff_ne]; exact he
  have h0 := h.c0
  have h1' := h.c1
  have h2 := h.c2
  clear h hc h1 hp he
  go_enter Try.func51, Try.ntmps51
  go_wp2_with fail
  refine (rleft_any b s (p : Int) e _ H.out hp0 (by omega) hs).mono ?_
  rintro r w1 ⟨rfl, nq, rfl⟩
  go_wp2_with fail
  go_quiet (fail)
  go_wp2
  go_ret
  exact ⟨rfl, H.out, ⟨rfl, rfl, rfl, Nat.le_refl _, fun _ _ _ => rfl⟩⟩

set_option maxHeartbeats 1600000 in
set_option maxRecDepth 100000 in
theorem rflag_ok (b : Nat) (s : ByteArray) (p : Nat) (c : UInt8) (w : World) (h : IsR b s (p : Int) 0 w) (hp : p < s.size) (hc : s[p] = c) (h1 : ¬ 1 < c.toNat) (hs : s.size ≤ 1099511627776) :
    Calls Try.prog 51 #[.pointer (some ⟨b, 0, none⟩)] w fun r w' => r = .returned (.bool ((c.toNat : Int) == 1)) ∧ IsR b s ((p : Int) + 1) 0 w' ∧ Keeps (fun x => x = b) w w' := by
  have H := aside h
  have hix := idx_str' s p hp (p : Int) rfl
  rw [hc] at hix
  have hp0 : (0 : Int) ≤ (p : Int) := by omega
  have hp1 : (p : Int) < (s.size : Int) := by omega
  have hl : ((s.size : Int) - (p : Int) == 0) = false := by rw [beq_eq_false_iff_ne]; omega
  have g1 : (c.toNat : Int) ≤ 1 := by omega
  have h0 := h.c0
  have h1' := h.c1
  have h2 := h.c2
  have hf1 := h.f1
  clear h hc h1 hp
  go_enter Try.func51, Try.ntmps51
  go_wp2_with fail
  refine (rleft_any b s (p : Int) 0 _ H.out hp0 (by omega) hs).mono ?_
  rintro r w1 ⟨rfl, nq, rfl⟩
  go_wp2_with fail
  go_quiet (fail)
  go_wp2
  go_quiet (fail)
  go_wp2
  go_ret
  exact ⟨rfl, H.out.set1 _, ((Keeps.refl (fun x => x = b) w).setCell (p := ⟨b, 1, none⟩) (fun _ => rfl) _).trans ⟨rfl, rfl, rfl, Nat.le_refl _, fun _ _ _ => rfl⟩⟩

end Go.Proofs.Ytnjbglnkhgholaa

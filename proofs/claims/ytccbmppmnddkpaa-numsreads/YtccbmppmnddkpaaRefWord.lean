/-
  Word and Flag of the document's own reader, by contracts.
-/
import Derived.Test.YtccbmppmnddkpaaRefOps
import Derived.Laws.BitsAllLaws
namespace Go.Proofs.Ytccbmppmnddkpaa
open Go.RowKit
set_option linter.unusedVariables false

set_option maxHeartbeats 400000 in
theorem rrword_broken (B b : Nat) (v : Value) (l : List UInt8) (p e : Int) (w : World) (h : IsRR B b v l p e w) (he : e ≠ 0) :
    Calls Try.prog 49 #[.pointer (some ⟨b, 0, none⟩)] w fun r w' => r = .returned (.int .u64 0) ∧ w' = w := by
  have h2 := h.c2
  have hb : (e != 0) = true := by simp [he]
  go_enter Try.func49, Try.ntmps49
  go_wp2
  go_ret
  exact ⟨rfl, rfl⟩

set_option maxHeartbeats 1600000 in
set_option maxRecDepth 100000 in
theorem rrword_short (B b : Nat) (v : Value) (l : List UInt8) (p : Nat) (w : World) (h : IsRR B b v l (p : Int) 0 w) (hp : p ≤ l.length) (h8 : l.length < p + 8) (hs : l.length ≤ 1099511627776) :
    Calls Try.prog 49 #[.pointer (some ⟨b, 0, none⟩)] w fun r w' => r = .returned (.int .u64 0) ∧ IsRR B b v l (p : Int) 10 w' ∧ Keeps (fun x => x = b) w w' := by
  obtain ⟨ra, rc, rfl, hrc⟩ := h.form
  have H := aside h
  have h0 := h.c0
  have h1 := h.c1
  have h2 := h.c2
  have hf2 := h.f2
  have hl' : (l.length : Int) ≤ 1099511627776 := by omega
  have hp1 : (p : Int) ≤ (l.length : Int) := by omega
  have hlt : (l.length : Int) - (p : Int) < 8 := by omega
  clear h
  go_enter Try.func49, Try.ntmps49
  go_wp2_with fail
  go_quiet (fail)
  go_wp2
  go_ret
  exact ⟨rfl, H.out.set2 10, (((Keeps.refl (fun x => x = b) w).drewN _).setCell (p := ⟨b, 2, none⟩) (fun _ => rfl) _)⟩

def RRWordRel (l : List UInt8) (p : Nat) (w : World) (u i : Value) (wr : World) : Prop :=
  ∃ j acc m : Nat, u = .int .u64 (acc : Int) ∧ i = .int .i64 (j : Int) ∧ j ≤ 8 ∧ acc = valB ((l.drop p).take j) ∧ wr = w.drewN m

theorem or_step (acc : Nat) (c : UInt8) (h : acc < 72057594037927936) : bits .or .u64 ((acc : Int) * 256) (c.toNat : Int) = ((acc * 256 + c.toNat : Nat) : Int) := by
  have hc := c.toNat_lt
  rw [show ((acc : Int) * 256) = ((acc * 256 : Nat) : Int) from by omega, u64_or_nat _ _ (by omega) (by omega), nat_join 8 (acc * 256) c.toNat (by omega) (by omega)]

set_option maxHeartbeats 1600000 in
set_option maxRecDepth 100000 in
theorem rrword_ok (B b : Nat) (v : Value) (l : List UInt8) (p : Nat) (w : World) (h : IsRR B b v l (p : Int) 0 w) (h8 : p + 8 ≤ l.length) (hs : l.length ≤ 1099511627776) :
    Calls Try.prog 49 #[.pointer (some ⟨b, 0, none⟩)] w fun r w' => r = .returned (.int .u64 (valB ((l.drop p).take 8) : Int)) ∧ IsRR B b v l ((p : Int) + 8) 0 w' ∧ Keeps (fun x => x = b) w w' := by
  obtain ⟨g, rc, rfl, _⟩ := h.byte p (by omega)
  have H := aside h
  have h0 := h.c0
  have h1 := h.c1
  have h2 := h.c2
  have hf1 := h.f1
  have hl' : (l.length : Int) ≤ 1099511627776 := by omega
  have hp1 : (p : Int) + 8 ≤ (l.length : Int) := by omega
  have hlt : ¬ (l.length : Int) - (p : Int) < 8 := by omega
  clear h
  go_enter Try.func49, Try.ntmps49
  go_wp2_with fail
  go_quiet (fail)
  go_wp2
  go_loopw [3, 4] (fun u i wr => RRWordRel l p w u i wr) (fun _ i _ => 8 - (intOf i).toNat)
  case atStart => exact ⟨0, 0, _, rfl, rfl, by omega, rfl, rfl⟩
  case round =>
    obtain ⟨j, acc, m, rfl, rfl, hj8, hacc, rfl⟩ := hrel
    have hj8' : (j : Int) ≤ 8 := by omega
    by_cases hj : (j : Int) < 8
    · have hpj : p + j < l.length := by omega
      have hpj' : (p : Int) + (j : Int) < (l.length : Int) := by omega
      obtain ⟨g2, rc2, hv2, hcell⟩ := H.out.byte (p + j) hpj
      obtain ⟨rfl, rfl⟩ : g = g2 ∧ rc = rc2 := by
        injection hv2 with e1 e2 e3
        injection e1 with e1
        injection e1 with e1
        exact ⟨e1, e3⟩
      have hdj : (l.drop p).take (j + 1) = (l.drop p).take j ++ [l[p + j]] := by
        rw [List.take_succ_eq_append_getElem (by simp; omega)]
        simp
      obtain ⟨c, hc⟩ : ∃ c, c = l[p + j] := ⟨_, rfl⟩
      rw [← hc] at hcell hdj
      have hva := valB_lt ((l.drop p).take j)
      have hlj : ((l.drop p).take j).length ≤ j := List.length_take_le _ _
      have hacc56 : acc < 72057594037927936 := by
        rw [hacc]
        have h7 : 256 ^ ((l.drop p).take j).length ≤ 256 ^ 7 := Nat.pow_le_pow_right (by omega) (by omega)
        have h77 : 256 ^ 7 = 72057594037927936 := by decide
        omega
      have hacc' : (acc : Int) < 72057594037927936 := by omega
      have hor := or_step acc c hacc56
      have HO := aside hor
      have hb := c.toNat_lt
      have hb' : (c.toNat : Int) < 256 := by omega
      have HJ := aside hdj
      have HA := aside hacc
      clear hc hdj hacc hva hlj hacc56 hb hpj hj8 hv2 hor
      go_wp2_with fail
      go_quiet (fail)
      go_wp2
      go_roundw
      case rel => exact ⟨j + 1, acc * 256 + c.toNat, _, by rw [HO.out], by go_num, by omega, by rw [HJ.out, valB_snoc, ← HA.out], rfl⟩
      case measure => simp [intOf]; omega
    · have hj8e : j = 8 := by omega
      subst hj8e
      have HA := aside hacc
      clear hacc
      go_wp2
      go_ret
      exact ⟨by rw [← HA.out]; rfl, (H.out.drewN m).set1 _, (((Keeps.refl (fun x => x = b) w).drewN m).setCell (p := ⟨b, 1, none⟩) (fun _ => rfl) _)⟩

set_option maxHeartbeats 400000 in
theorem rrflag_broken (B b : Nat) (v : Value) (l : List UInt8) (p e : Int) (w : World) (h : IsRR B b v l p e w) (he : e ≠ 0) :
    Calls Try.prog 50 #[.pointer (some ⟨b, 0, none⟩)] w fun r w' => r = .returned (.bool false) ∧ w' = w := by
  have h2 := h.c2
  have hb : (e != 0) = true := by simp [he]
  go_enter Try.func50, Try.ntmps50
  go_wp2
  go_ret
  exact ⟨rfl, rfl⟩

set_option maxHeartbeats 1600000 in
set_option maxRecDepth 100000 in
theorem rrflag_end (B b : Nat) (v : Value) (l : List UInt8) (p : Nat) (w : World) (h : IsRR B b v l (p : Int) 0 w) (hp : p = l.length) (hs : l.length ≤ 1099511627776) :
    Calls Try.prog 50 #[.pointer (some ⟨b, 0, none⟩)] w fun r w' => r = .returned (.bool false) ∧ IsRR B b v l (p : Int) 10 w' ∧ Keeps (fun x => x = b) w w' := by
  obtain ⟨ra, rc, rfl, hrc⟩ := h.form
  have H := aside h
  have h0 := h.c0
  have h1 := h.c1
  have h2 := h.c2
  have hf2 := h.f2
  have hge : (l.length : Int) ≤ (p : Int) := by omega
  clear h hp
  go_enter Try.func50, Try.ntmps50
  go_wp2_with fail
  go_quiet (fail)
  go_wp2
  go_ret
  exact ⟨rfl, H.out.set2 10, (((Keeps.refl (fun x => x = b) w).drewN _).setCell (p := ⟨b, 2, none⟩) (fun _ => rfl) _)⟩

set_option maxHeartbeats 1600000 in
set_option maxRecDepth 100000 in
theorem rrflag_form (B b : Nat) (v : Value) (l : List UInt8) (p : Nat) (c : UInt8) (w : World) (h : IsRR B b v l (p : Int) 0 w) (hp : p < l.length) (hc : l[p] = c) (h1c : 1 < c.toNat) (hs : l.length ≤ 1099511627776) :
    Calls Try.prog 50 #[.pointer (some ⟨b, 0, none⟩)] w fun r w' => r = .returned (.bool false) ∧ IsRR B b v l (p : Int) 11 w' ∧ Keeps (fun x => x = b) w w' := by
  obtain ⟨g, rc, rfl, hcell⟩ := h.byte p hp
  rw [hc] at hcell
  have H := aside h
  have h0 := h.c0
  have h1 := h.c1
  have h2 := h.c2
  have hf2 := h.f2
  have hlt : (p : Int) < (l.length : Int) := by omega
  have g1 : (1 : Int) < (c.toNat : Int) := by omega
  clear h hc h1c hp
  go_enter Try.func50, Try.ntmps50
  go_wp2_with fail
  go_quiet (fail)
  go_wp2
  go_quiet (fail)
  go_wp2
  go_ret
  exact ⟨rfl, H.out.set2 11, (((Keeps.refl (fun x => x = b) w).drewN _).setCell (p := ⟨b, 2, none⟩) (fun _ => rfl) _)⟩

set_option maxHeartbeats 1600000 in
set_option maxRecDepth 100000 in
theorem rrflag_ok (B b : Nat) (v : Value) (l : List UInt8) (p : Nat) (c : UInt8) (w : World) (h : IsRR B b v l (p : Int) 0 w) (hp : p < l.length) (hc : l[p] = c) (h1c : ¬ 1 < c.toNat) (hs : l.length ≤ 1099511627776) :
    Calls Try.prog 50 #[.pointer (some ⟨b, 0, none⟩)] w fun r w' => r = .returned (.bool ((c.toNat : Int) == 1)) ∧ IsRR B b v l ((p : Int) + 1) 0 w' ∧ Keeps (fun x => x = b) w w' := by
  obtain ⟨g, rc, rfl, hcell⟩ := h.byte p hp
  rw [hc] at hcell
  have H := aside h
  have h0 := h.c0
  have h1 := h.c1
  have h2 := h.c2
  have hf1 := h.f1
  have hlt : (p : Int) < (l.length : Int) := by omega
  have hl' : (l.length : Int) ≤ 1099511627776 := by omega
  have g1 : (c.toNat : Int) ≤ 1 := by omega
  clear h hc h1c hp
  go_enter Try.func50, Try.ntmps50
  go_wp2_with fail
  go_quiet (fail)
  go_wp2
  go_quiet (fail)
  go_wp2
  go_ret
  exact ⟨rfl, H.out.set1 _, (((Keeps.refl (fun x => x = b) w).drewN _).setCell (p := ⟨b, 1, none⟩) (fun _ => rfl) _)⟩

end Go.Proofs.Ytccbmppmnddkpaa

/-
  Word and Flag of the document's own reader, by contracts.
-/
import Derived.Test.YtnjbglnkhgholaaRefOps
import Derived.Laws.BitsAllLaws
namespace Go.Proofs.Ytnjbglnkhgholaa
open Go.RowKit
set_option linter.unusedVariables false



def RRWordRel (l : List UInt8) (p : Nat) (w : World) (u i : Value) (wr : World) : Prop :=
  ∃ j acc m : Nat, u = .int .u64 (acc : Int) ∧ i = .int .i64 (j : Int) ∧ j ≤ 8 ∧ acc = valB ((l.drop p).take j) ∧ wr = w.drewN m

theorem or_step (acc : Nat) (c : UInt8) (h : acc < 72057594037927936) : bits .or .u64 ((acc : Int) * 256) (c.toNat : Int) = ((acc * 256 + c.toNat : Nat) : Int) := by
  have hc := c.toNat_lt
  rw [show ((acc : Int) * 256) = ((acc * 256 : Nat) : Int) from by omega, u64_or_nat _ _ (by omega) (by omega), nat_join 8 (acc * 256) c.toNat (by omega) (by omega)]


set_option maxHeartbeats 400000 in
theorem rrflag_broken (B b : Nat) (v : Value) (l : List UInt8) (p e : Int) (w : World) (h : IsRR B b v l p e w) (he : e ≠ 0) :
    Calls Try.prog 57 #[.pointer (some ⟨b, 0, none⟩)] w fun r w' => r = .returned (.bool false) ∧ w' = w := by
  have h2 := h.c2
  have hb : (e != 0) = true := by simp [he]
  go_enter Try.func57, Try.ntmps57
  go_wp2
  go_ret
  exact ⟨rfl, rfl⟩

set_option maxHeartbeats 1600000 in
set_option maxRecDepth 100000 in
theorem rrflag_end (B b : Nat) (v : Value) (l : List UInt8) (p : Nat) (w : World) (h : IsRR B b v l (p : Int) 0 w) (hp : p = l.length) (hs : l.length ≤ 1099511627776) :
    Calls Try.prog 57 #[.pointer (some ⟨b, 0, none⟩)] w fun r w' => r = .returned (.bool false) ∧ IsRR B b v l (p : Int) 10 w' ∧ Keeps (fun x => x = b) w w' := by
  obtain ⟨ra, rc, rfl, hrc⟩ := h.form
  have H := aside h
  have h0 := h.c0
  have h1 := h.c1
  have h2 := h.c2
  have hf2 := h.f2
  have hge : (l.length : Int) ≤ (p : Int) := by omega
  clear h hp
  go_enter Try.func57, Try.ntmps57
  go_wp2_with fail
  go_quiet (fail)
  go_wp2
  go_ret
  exact ⟨rfl, H.out.set2 10, (((Keeps.refl (fun x => x = b) w).drewN _).setCell (p := ⟨b, 2, none⟩) (fun _ => rfl) _)⟩

set_option maxHeartbeats 1600000 in
set_option maxRecDepth 100000 in
theorem rrflag_form (B b : Nat) (v : Value) (l : List UInt8) (p : Nat) (c : UInt8) (w : World) (h : IsRR B b v l (p : Int) 0 w) (hp : p < l.length) (hc : l[p] = c) (h1c : 1 < c.toNat) (hs : l.length ≤ 1099511627776) :
    Calls Try.prog 57 #[.pointer (some ⟨b, 0, none⟩)] w fun r w' => r = .returned (.bool false) ∧ IsRR B b v l (p : Int) 11 w' ∧ Keeps (fun x => x = b) w w' := by
  obtain ⟨g, rc, rfl, hcell⟩ := h.byte p hp
  rw [hc] at hcell
  have H := aside h
  have h0 := h.c0
  have h1 := h.c1
  have h2 := h.c2
  have hf2 := h.f2
  have hlt : (p : Int) < (l.length : Int) := by omega
  have g1 : (1 : Int) < (c.toNat : Int) := by omega
  clear h hc h1c hp
  go_enter Try.func57, Try.ntmps57
  go_wp2_with fail
  go_quiet (fail)
  go_wp2
  go_quiet (fail)
  go_wp2
  go_ret
  exact ⟨rfl, H.out.set2 11, (((Keeps.refl (fun x => x = b) w).drewN _).setCell (p := ⟨b, 2, none⟩) (fun _ => rfl) _)⟩

set_option maxHeartbeats 1600000 in
set_option maxRecDepth 100000 in
theorem rrflag_ok (B b : Nat) (v : Value) (l : List UInt8) (p : Nat) (c : UInt8) (w : World) (h : IsRR B b v l (p : Int) 0 w) (hp : p < l.length) (hc : l[p] = c) (h1c : ¬ 1 < c.toNat) (hs : l.length ≤ 1099511627776) :
    Calls Try.prog 57 #[.pointer (some ⟨b, 0, none⟩)] w fun r w' => r = .returned (.bool ((c.toNat : Int) == 1)) ∧ IsRR B b v l ((p : Int) + 1) 0 w' ∧ Keeps (fun x => x = b) w w' := by
  obtain ⟨g, rc, rfl, hcell⟩ := h.byte p hp
  rw [hc] at hcell
  have H := aside h
  have h0 := h.c0
  have h1 := h.c1
  have h2 := h.c2
  have hf1 := h.f1
  have hlt : (p : Int) < (l.length : Int) := by omega
  have hl' : (l.length : Int) ≤ 1099511627776 := by omega
  have g1 : (c.toNat : Int) ≤ 1 := by omega
  clear h hc h1c hp
  go_enter Try.func57, Try.ntmps57
  go_wp2_with fail
  go_quiet (fail)
  go_wp2
  go_quiet (fail)
  go_wp2
  go_ret
  exact ⟨rfl, H.out.set1 _, (((Keeps.refl (fun x => x = b) w).drewN _).setCell (p := ⟨b, 1, none⟩) (fun _ => rfl) _)⟩

end Go.Proofs.Ytnjbglnkhgholaa

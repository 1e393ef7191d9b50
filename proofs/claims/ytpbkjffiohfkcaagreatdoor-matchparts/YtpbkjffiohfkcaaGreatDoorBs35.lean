/-
  place and room of the document's store.
-/
import Derived.Test.YtpbkjffiohfkcaaGreatDoorBs1
import Derived.Test.YtpbkjffiohfkcaaGreatDoorBs34
import Derived.Test.YtpbkjffiohfkcaaGreatDoorBs24
import Derived.Test.YtpbkjffiohfkcaaGreatDoorBs19
namespace Go.Proofs.YtpbkjffiohfkcaaGreatDoor
open Go.RowKit
set_option linter.unusedVariables false
set_option maxHeartbeats 6400000 in
set_option maxRecDepth 100000 in
theorem place_any (k : ByteArray) {w : World} {B db : Nat} {nd ck : Int} {l : List En} (h : DSt w B db nd ck l) (hm : MapL l) :
    Calls Tryz.prog 72 #[.pointer (some ⟨db, 0, none⟩), .string k] w fun e w' => e = .returned (.tuple #[.int .i64 (plc k l : Int), .bool (isP k l)]) ∧ Below w.heap.size w w' := by
 obtain ⟨a, c, hd, hA, hmx0⟩ := h.ents hm
 have HD := aside hd
 have HA := aside hA
 have hmx : (l.length : Int) ≤ 9223372036854775807 := by omega
 clear h hm hd hA hmx0
 go_enter Tryz.func72, Tryz.ntmps72
 go_wp2
 go_loopw [6] (fun i wr => ∃ j : Nat, i = .int .i64 (j : Int) ∧ j ≤ l.length ∧ Hid (∀ i, i < j → kLt (nthE l i).k k = true) ∧ Below w.heap.size w wr) (fun i _ => l.length - (intOf i).toNat)
 case atStart => exact ⟨0, rfl, Nat.zero_le _, fun i hi => by omega, Below.refl _ _⟩
 case round =>
  obtain ⟨j, rfl, hj, HP, hB⟩ := hrel
  have HB := aside hB
  clear hB
  obtain ⟨d0, d1, d2⟩ := box3r (blk_on HD.out HB.out)
  by_cases hlt : (j : Int) < (l.length : Int)
  ·have hj0 : (0 : Int) ≤ (j : Int) := by omega
   have eA := HA.out.keep HB.out
   rcases eA.2.2 with h0 | ⟨b, off, rfl, -, -⟩
   ·omega
   obtain ⟨x, hx⟩ : ∃ x, nthE l j = x := ⟨_, rfl⟩
   obtain ⟨c0, -⟩ := ents_five eA (by omega) hx
   have HXX := aside hx
   clear eA hx
   cases hk : kLt x.k k
   ·have hkb : Op.bytesLess x.k.toList k.toList = false := hk
    have HPO := aside (plc_of (k := k) hj HP.out (.inr (by rw [HXX.out]; exact hk)))
    have hdl : decide (j < l.length) = true := by simp; omega
    rw [HXX.out, hdl, Bool.true_and] at HPO
    go_wp2_with fail
    have dx := d2
    have cx := c0
    clear d0 d1 hkb hk
    refine wp_region_held_drew (S := fun W => Below w.heap.size w W ∧ W.cell? ⟨db, 2, none⟩ = some (.slice (some ⟨b, off, none⟩) l.length c) ∧ W.cell? ⟨b, off + j * 5, none⟩ = some (.string x.k)) (by kernel_rfl) ⟨HB.out.drew, dx, cx⟩ (fun hHeld => ?_)
    refine tk 0 rfl _ ?_; refine tk 1 rfl _ ?_; refine tk 2 rfl _ ?_; refine tk 3 rfl _ ?_; refine tk 4 rfl _ ?_; refine tk 5 rfl _ ?_; refine tk 6 rfl _ ?_; refine tk 7 rfl _ ?_; refine tk 8 rfl _ ?_; refine tk 9 rfl _ ?_; refine tk 10 rfl _ ?_; refine tk 11 rfl _ ?_; refine tk 12 rfl _ ?_; refine tk 13 rfl _ ?_; refine tk 14 rfl _ ?_; refine tk 15 rfl _ ?_; refine tk 16 rfl _ ?_; refine tk 17 rfl _ ?_; refine tk 18 rfl _ ?_; refine tk 19 rfl _ ?_; refine tk 20 rfl _ ?_; refine tk 21 rfl _ ?_
    refine wpAnyH_done (by kernel_rfl) ?_ _
    have B3 := aside hHeld.1
    clear hHeld dx cx d2 c0
    go_wp2
    go_ret2
    exact ⟨by rw [HPO.out.1, HPO.out.2]; rfl, B3.out⟩
   ·have hkb : Op.bytesLess x.k.toList k.toList = true := hk
    have HK := aside hk
    go_wp2
    go_roundw
    case rel => exact ⟨j + 1, by go_num, by omega, fun i hi => by rcases Nat.lt_succ_iff_lt_or_eq.1 hi with g | g; exact HP.out i g; (subst g; rw [HXX.out]; exact HK.out), HB.out⟩
    case measure => simp [intOf]; omega
  ·have hjl : j = l.length := by omega
   have HPO := aside (plc_of (k := k) hj HP.out (.inl hjl))
   have hdl : decide (j < l.length) = false := by simp; omega
   rw [hdl, Bool.false_and] at HPO
   go_wp2_with fail
   have dx := d2
   clear d0 d1
   refine wp_region_held_drew (S := fun W => Below w.heap.size w W ∧ W.cell? ⟨db, 2, none⟩ = some (.slice a l.length c)) (by kernel_rfl) ⟨HB.out.drew, dx⟩ (fun hHeld => ?_)
   refine tk 0 rfl _ ?_; refine tk 1 rfl _ ?_; refine tk 2 rfl _ ?_; refine tk 3 rfl _ ?_; refine tk 4 rfl _ ?_; refine tk 5 rfl _ ?_; refine tk 6 rfl _ ?_; refine tk 7 rfl _ ?_; refine tk 8 rfl _ ?_; refine tn 9 rfl ?_; refine tn 10 rfl ?_; refine tn 11 rfl ?_; refine tn 12 rfl ?_; refine tn 13 rfl ?_; refine tn 14 rfl ?_; refine tn 15 rfl ?_; refine tn 16 rfl ?_; refine tn 17 rfl ?_; refine tn 18 rfl ?_; refine tk 19 rfl _ ?_; refine tk 20 rfl _ ?_; refine tk 21 rfl _ ?_
   refine wpAnyH_done (by kernel_rfl) ?_ _
   have B3 := aside hHeld.1
   clear hHeld dx d2
   go_wp2
   go_ret2
   exact ⟨by rw [HPO.out.1, HPO.out.2, hjl]; rfl, B3.out⟩
set_option maxHeartbeats 3200000 in
set_option maxRecDepth 100000 in
theorem room_any (k : ByteArray) {w : World} {B db : Nat} {nd ck : Int} {l : List En} (h : DSt w B db nd ck l) (hm : MapL l) :
    Calls Tryz.prog 71 #[.pointer (some ⟨db, 0, none⟩), .string k] w fun e w' => e = .returned (.bool (roomB k l)) ∧ Below w.heap.size w w' := by
 have CP := aside (place_any k h hm)
 obtain ⟨a, c, hd, -, -⟩ := h.ents hm
 have HD := aside hd
 rw [room_plc hm.rises]
 clear h hm hd
 cases hi : isP k l
 ·rw [hi] at CP
  go_enter Tryz.func71, Tryz.ntmps71
  go_wp2_with fail
  refine CP.out.mono ?_
  rintro e w1 ⟨rfl, b1⟩
  obtain ⟨d0, d1, d2⟩ := box3r (blk_on HD.out b1)
  have B1 := aside b1
  clear b1 CP
  go_wp2
  go_ret
  exact ⟨ret_bool (by simp; omega), B1.out⟩
 ·rw [hi] at CP
  go_enter Tryz.func71, Tryz.ntmps71
  go_wp2_with fail
  refine CP.out.mono ?_
  rintro e w1 ⟨rfl, b1⟩
  have B1 := aside b1
  clear b1 CP
  go_wp2
  go_ret
  exact ⟨rfl, B1.out⟩
end Go.Proofs.YtpbkjffiohfkcaaGreatDoor

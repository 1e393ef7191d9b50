/-
  Keys that are checked, by the code and by the document: none too long, and they rise.
-/
import Derived.Test.YtpbkjffiohfkcaaGreatDoorBs1
import Derived.Test.YtpbkjffiohfkcaaGreatDoorBs32
import Derived.Test.YtpbkjffiohfkcaaGreatDoorBs31
import Derived.OrdersHeld
import Derived.Deep.RegionHeld
import Derived.Laws.AppendOwn
namespace Go.Proofs.YtpbkjffiohfkcaaGreatDoor
open Go.RowKit
set_option linter.unusedVariables false
def longK (S : Nat → ByteArray) (n : Nat) : Bool := (List.range n).any fun i => decide ((16 : Int) < (S i).size)
def riseK (S : Nat → ByteArray) (n : Nat) : Bool := (List.range (n - 1)).all fun i => Op.bytesLess (S i).toList (S (i + 1)).toList
def keyE (S : Nat → ByteArray) (n : Nat) : Int := if longK S n then 20 else if riseK S n then 0 else 22
theorem leq_not (x y : List UInt8) : (Op.bytesLess x y || x == y) = !Op.bytesLess y x := by
 cases h1 : Op.bytesLess x y
 ·cases h2 : Op.bytesLess y x
  ·have := L_total x y h1 h2
   subst this
   simp
  ·cases h3 : (x == y)
   ·rfl
   ·have : x = y := by simpa using h3
    subst this
    rw [h1] at h2; cases h2
 ·cases h2 : Op.bytesLess y x
  ·rfl
  ·have := L_trans x y x h1 h2
   rw [L_irrefl] at this; cases this
theorem longK_true {S : Nat → ByteArray} {n k : Nat} (hk : k < n) (h : (16 : Int) < (S k).size) : longK S n = true := by
 unfold longK
 rw [List.any_eq_true]
 exact ⟨k, List.mem_range.2 hk, by simpa using h⟩
theorem longK_false {S : Nat → ByteArray} {n : Nat} (h : ∀ k, k < n → ((S k).size : Int) ≤ 16) : longK S n = false := by
 unfold longK
 rw [List.any_eq_false]
 intro k hk
 have := h k (List.mem_range.1 hk)
 simp; omega
theorem riseK_false {S : Nat → ByteArray} {n k : Nat} (hk : k + 1 < n) (h : Op.bytesLess (S k).toList (S (k + 1)).toList = false) : riseK S n = false := by
 unfold riseK
 rw [List.all_eq_false]
 exact ⟨k, List.mem_range.2 (by omega), by simp [h]⟩
theorem riseK_true {S : Nat → ByteArray} {n : Nat} (h : ∀ k, k + 1 < n → Op.bytesLess (S k).toList (S (k + 1)).toList = true) : riseK S n = true := by
 unfold riseK
 rw [List.all_eq_true]
 intro k hk
 exact h k (by have := List.mem_range.1 hk; omega)
set_option maxHeartbeats 800000 in
theorem tooLong_any (k : ByteArray) (w : World) : Calls Tryz.prog 146 #[.string k] w fun e w' => e = .returned (.bool (decide ((16 : Int) < k.size))) ∧ w' = w := by
 go_enter Tryz.func146, Tryz.ntmps146
 go_wp2
 go_ret
 exact ⟨rfl, rfl⟩
set_option maxRecDepth 100000 in
set_option maxHeartbeats 2000000 in
theorem idxK_any (a : Option Addr) (len cap : Nat) (S : Nat → ByteArray) (w : World) (h : StrsIn w.heap.size w a len cap S) :
    Calls Tryz.prog 151 #[.slice a len cap, .func (.func 146) #[] #[]] w fun e w' => ∃ i : Int, e = .returned (.int .i64 i) ∧ decide (0 ≤ i) = longK S len ∧ w' = w := by
 obtain ⟨hlc, hl16, hh⟩ := h
 go_enter Tryz.func151, Tryz.ntmps151
 go_wp2
 go_loopw [8] (fun i wr => ∃ k : Nat, k ≤ len ∧ i = .int .i64 (k : Int) ∧ Hid (∀ j, j < k → ((S j).size : Int) ≤ 16) ∧ wr = w) (fun i _ => len - (intOf i).toNat)
 case atStart => exact ⟨0, Nat.zero_le _, rfl, fun j hj => by omega, rfl⟩
 case round =>
  obtain ⟨k, hk, rfl, hall, rfl⟩ := hrel
  by_cases hlt : (k : Int) < (len : Int)
  ·rcases hh with hh | ⟨b, off, rfl, hb, hc⟩
   ·omega
   ·have c0 := hc k (by omega)
    have hk0 : (0 : Int) ≤ (k : Int) := by omega
    have hqw : IntKind.i64.wrap ((k : Int) + 1) = (k : Int) + 1 := by rw [IntKind.wrap_i64]; omega
    clear hc
    cases he : decide ((16 : Int) < (S k).size)
    ·have HA := aside (show ∀ j, j < k + 1 → ((S j).size : Int) ≤ 16 from fun j hj => by
       by_cases e : j = k
       ·rw [e]; have := of_decide_eq_false he; omega
       ·exact hall.out j (by omega))
     go_wp2_with fail
     refine (tooLong_any _ _).mono ?_
     rintro e w1 ⟨rfl, rfl⟩
     rw [he]
     go_wp2
     go_roundw
     case rel => exact ⟨k + 1, by omega, by go_num, HA, by trivial⟩
     case measure => simp [intOf]; omega
    ·have HL := aside (longK_true (S := S) (n := len) (by omega) (of_decide_eq_true he))
     go_wp2_with fail
     refine (tooLong_any _ _).mono ?_
     rintro e w1 ⟨rfl, rfl⟩
     rw [he]
     go_wp2
     go_ret
     exact ⟨_, rfl, by rw [HL.out]; exact decide_eq_true hk0, rfl⟩
  ·obtain rfl : len = k := by omega
   go_wp2
   go_ret
   exact ⟨_, rfl, by rw [longK_false hall.out]; rfl, rfl⟩
set_option maxHeartbeats 800000 in
theorem contK_any (a : Option Addr) (len cap : Nat) (S : Nat → ByteArray) (w : World) (h : StrsIn w.heap.size w a len cap S) :
    Calls Tryz.prog 145 #[.slice a len cap, .func (.func 146) #[] #[]] w fun e w' => e = .returned (.bool (longK S len)) ∧ w' = w := by
 have H := aside h
 clear h
 go_enter Tryz.func145, Tryz.ntmps145
 go_wp2_with fail
 refine (idxK_any a len cap S w H.out).mono ?_
 rintro e w1 ⟨i, rfl, hi, rfl⟩
 go_wp2
 go_ret
 exact ⟨by rw [← hi]; rfl, rfl⟩
set_option maxRecDepth 100000 in
set_option maxHeartbeats 3200000 in
theorem rise_any (a : Option Addr) (len cap : Nat) (S : Nat → ByteArray) (w : World) (h : StrsIn w.heap.size w a len cap S) :
    Calls Tryz.prog 147 #[.slice a len cap] w fun e w' => e = .returned (.bool (riseK S len)) ∧ Below w.heap.size w w' := by
 have hlc := h.1
 have hl16 := h.2.1
 have HH := aside h.2.2
 clear h
 go_enter Tryz.func147, Tryz.ntmps147
 go_wp2
 go_loopw [3] (fun i wr => ∃ k : Nat, (k = 0 ∨ k + 1 ≤ len) ∧ i = .int .i64 ((k : Int) + 1) ∧ Hid (∀ j, j < k → Op.bytesLess (S j).toList (S (j + 1)).toList = true) ∧ Below w.heap.size w wr) (fun i _ => len - (intOf i).toNat)
 case atStart => exact ⟨0, .inl rfl, rfl, fun j hj => by omega, Below.refl _ _⟩
 case round =>
  obtain ⟨k, hk, rfl, hall, hnx⟩ := hrel
  have HX := aside hnx
  by_cases hlt : (k : Int) + 1 < (len : Int)
  ·rcases HH.out with h0 | ⟨b, off, rfl, hb, hc⟩
   ·omega
   ·have c1 := (hnx.cell (p := ⟨b, off + (k + 1), none⟩) hb).trans (hc (k + 1) (by omega))
    have c0 := (hnx.cell (p := ⟨b, off + k, none⟩) hb).trans (hc k (by omega))
    have hk0 : (0 : Int) ≤ (k : Int) := by omega
    have hk1 : (0 : Int) ≤ (k : Int) + 1 := by omega
    have hk2 : (k : Int) < (len : Int) := by omega
    have hkw : IntKind.i64.wrap (k : Int) = (k : Int) := by rw [IntKind.wrap_i64]; omega
    have hqw : IntKind.i64.wrap ((k : Int) + 1 + 1) = (k : Int) + 1 + 1 := by rw [IntKind.wrap_i64]; omega
    have KL := aside (show k + 1 < len from by omega)
    clear hc hnx
    have hle := leq_not (S (k + 1)).toList (S k).toList
    cases he : Op.bytesLess (S k).toList (S (k + 1)).toList
    ·have HE := aside he
     go_wp2_with fail
     refine wp_region_held_drew (S := fun X => X.cell? ⟨b, off + (k + 1), none⟩ = some (.string (S (k + 1))) ∧ X.cell? ⟨b, off + k, none⟩ = some (.string (S k)) ∧ Hid (Below w.heap.size w X)) (by kernel_rfl) ⟨c1, c0, aside HX.out.drew⟩ (fun hHeld => ?_)
     refine tk 0 rfl _ ?_; refine tk 1 rfl _ ?_; refine tk 2 rfl _ ?_; refine tk 3 rfl _ ?_; refine tk 4 rfl _ ?_; refine tk 5 rfl _ ?_; refine tk 6 rfl _ ?_; refine tk 7 rfl _ ?_; refine tk 8 rfl _ ?_; refine tk 9 rfl _ ?_
     refine wpAnyH_done (by kernel_rfl) ?_ _
     have HY := aside hHeld.2.2.out
     clear hHeld c0 c1
     clear hle he
     go_wp2
     go_ret
     exact ⟨by rw [riseK_false KL.out HE.out]; rfl, HY.out⟩
    ·have HA := aside (show ∀ j, j < k + 1 → Op.bytesLess (S j).toList (S (j + 1)).toList = true from fun j hj => by
       by_cases e : j = k
       ·rw [e]; exact he
       ·exact hall.out j (by omega))
     go_wp2_with fail
     refine wp_region_held_drew (S := fun X => X.cell? ⟨b, off + (k + 1), none⟩ = some (.string (S (k + 1))) ∧ X.cell? ⟨b, off + k, none⟩ = some (.string (S k)) ∧ Hid (Below w.heap.size w X)) (by kernel_rfl) ⟨c1, c0, aside HX.out.drew⟩ (fun hHeld => ?_)
     refine tk 0 rfl _ ?_; refine tk 1 rfl _ ?_; refine tk 2 rfl _ ?_; refine tk 3 rfl _ ?_; refine tk 4 rfl _ ?_; refine tk 5 rfl _ ?_; refine tk 6 rfl _ ?_; refine tk 7 rfl _ ?_; refine tk 8 rfl _ ?_; refine tk 9 rfl _ ?_
     refine wpAnyH_done (by kernel_rfl) ?_ _
     have HY := aside hHeld.2.2.out
     clear hHeld c0 c1
     clear hle he
     go_wp2
     go_roundw
     case rel => exact ⟨k + 1, .inr (by omega), by go_num, HA, HY.out⟩
     case measure => simp [intOf]; omega
  ·have HR := aside (riseK_true (S := S) (n := len) (fun j hj => hall.out j (by omega)))
   clear hnx
   go_wp2
   go_ret
   exact ⟨by rw [HR.out]; rfl, HX.out⟩
set_option maxHeartbeats 1600000 in
theorem checkKeys_any (a : Option Addr) (len cap : Nat) (S : Nat → ByteArray) (w : World) (h : StrsIn w.heap.size w a len cap S) :
    Calls Tryz.prog 136 #[.slice a len cap] w fun e w' => e = .returned (.int .i64 (keyE S len)) ∧ Below w.heap.size w w' := by
 have H := aside h
 clear h
 obtain ⟨q, hq⟩ : ∃ q, longK S len = q := ⟨_, rfl⟩
 obtain ⟨r, hr⟩ : ∃ r, riseK S len = r := ⟨_, rfl⟩
 have C1 := aside (contK_any a len cap S w H.out)
 have C2 := aside (fun w (h : StrsIn w.heap.size w a len cap S) => rise_any a len cap S w h)
 rw [show keyE S len = if q then 20 else if r then 0 else 22 from by unfold keyE; rw [hq, hr]]
 rw [hq] at C1
 rw [hr] at C2
 clear hq hr
 go_enter Tryz.func136, Tryz.ntmps136
 go_wp2_with fail
 refine C1.out.mono ?_
 rintro e w1 ⟨rfl, hw⟩
 subst hw
 cases q
 ·go_wp2_with fail
  refine (C2.out _ H.out).mono ?_
  rintro e w2 ⟨rfl, b2⟩
  cases r
  ·go_wp2
   go_ret
   exact ⟨rfl, b2⟩
  ·go_wp2
   go_ret
   exact ⟨rfl, b2⟩
 ·go_wp2
  go_ret
  exact ⟨rfl, Below.refl _ _⟩
set_option maxRecDepth 100000 in
set_option maxHeartbeats 3200000 in
theorem rrise_any (a : Option Addr) (len cap : Nat) (S : Nat → ByteArray) (w : World) (h : StrsIn w.heap.size w a len cap S) :
    Calls Tryz.prog 106 #[.slice a len cap] w fun e w' => e = .returned (.int .i64 (keyE S len)) ∧ Below w.heap.size w w' := by
 have hlc := h.1
 have hl16 := h.2.1
 have HH := aside h.2.2
 clear h
 go_enter Tryz.func106, Tryz.ntmps106
 go_wp2
 go_loopw [3] (fun i wr => ∃ k : Nat, k ≤ len ∧ i = .int .i64 (k : Int) ∧ Hid (∀ j, j < k → ((S j).size : Int) ≤ 16) ∧ w = wr) (fun i _ => len - (intOf i).toNat)
 case atStart => exact ⟨0, Nat.zero_le _, rfl, fun j hj => by omega, rfl⟩
 case round =>
  obtain ⟨k, hk, rfl, hall, rfl⟩ := hrel
  by_cases hlt : (k : Int) < (len : Int)
  ·rcases HH.out with hh | ⟨b, off, rfl, hb, hc⟩
   ·omega
   ·have c0 := hc k (by omega)
    have hk0 : (0 : Int) ≤ (k : Int) := by omega
    have hqw : IntKind.i64.wrap ((k : Int) + 1) = (k : Int) + 1 := by rw [IntKind.wrap_i64]; omega
    clear hc
    by_cases he : (16 : Int) < (S k).size
    ·have HL := aside (show keyE S len = 20 from by unfold keyE; rw [longK_true (S := S) (n := len) (by omega) he]; rfl)
     go_wp2
     go_ret
     exact ⟨by rw [HL.out]; rfl, Below.refl _ _⟩
    ·have HA := aside (show ∀ j, j < k + 1 → ((S j).size : Int) ≤ 16 from fun j hj => by
       by_cases e : j = k
       ·rw [e]; omega
       ·exact hall.out j (by omega))
     go_wp2
     go_roundw
     case rel => exact ⟨k + 1, by omega, by go_num, HA, by trivial⟩
     case measure => simp [intOf]; omega
  ·obtain rfl : len = k := by omega
   have HL := aside (longK_false hall.out)
   have HB := aside (Below.refl w.heap.size w)
   clear hall hlt hk
   go_wp2
   go_loopw [4] (fun i wr => ∃ k : Nat, (k = 0 ∨ k + 1 ≤ len) ∧ i = .int .i64 ((k : Int) + 1) ∧ Hid (∀ j, j < k → Op.bytesLess (S j).toList (S (j + 1)).toList = true) ∧ Below w.heap.size w wr) (fun i _ => len - (intOf i).toNat)
   case atStart => exact ⟨0, .inl rfl, rfl, fun j hj => by omega, HB.out⟩
   case round =>
    obtain ⟨k, hk, rfl, hall, hnx⟩ := hrel
    have HX := aside hnx
    by_cases hlt : (k : Int) + 1 < (len : Int)
    ·rcases HH.out with h0 | ⟨b, off, rfl, hb, hc⟩
     ·omega
     ·have c1 := (hnx.cell (p := ⟨b, off + (k + 1), none⟩) hb).trans (hc (k + 1) (by omega))
      have c0 := (hnx.cell (p := ⟨b, off + k, none⟩) hb).trans (hc k (by omega))
      have hk0 : (0 : Int) ≤ (k : Int) := by omega
      have hk1 : (0 : Int) ≤ (k : Int) + 1 := by omega
      have hk2 : (k : Int) < (len : Int) := by omega
      have hkw : IntKind.i64.wrap (k : Int) = (k : Int) := by rw [IntKind.wrap_i64]; omega
      have hqw : IntKind.i64.wrap ((k : Int) + 1 + 1) = (k : Int) + 1 + 1 := by rw [IntKind.wrap_i64]; omega
      have KL := aside (show k + 1 < len from by omega)
      clear hc hnx
      have hle := leq_not (S (k + 1)).toList (S k).toList
      cases he : Op.bytesLess (S k).toList (S (k + 1)).toList
      ·have HE := aside he
       go_wp2_with fail
       refine wp_region_held_drew (S := fun X => X.cell? ⟨b, off + (k + 1), none⟩ = some (.string (S (k + 1))) ∧ X.cell? ⟨b, off + k, none⟩ = some (.string (S k)) ∧ Hid (Below w.heap.size w X)) (by kernel_rfl) ⟨c1, c0, aside HX.out.drew⟩ (fun hHeld => ?_)
       refine tk 0 rfl _ ?_; refine tk 1 rfl _ ?_; refine tk 2 rfl _ ?_; refine tk 3 rfl _ ?_; refine tk 4 rfl _ ?_; refine tk 5 rfl _ ?_; refine tk 6 rfl _ ?_; refine tk 7 rfl _ ?_; refine tk 8 rfl _ ?_; refine tk 9 rfl _ ?_
       refine wpAnyH_done (by kernel_rfl) ?_ _
       have HY := aside hHeld.2.2.out
       clear hHeld c0 c1
       clear hle he
       have HZ := aside (show keyE S len = 22 from by unfold keyE; rw [HL.out, riseK_false KL.out HE.out]; rfl)
       go_wp2
       go_ret
       exact ⟨by rw [HZ.out]; rfl, HY.out⟩
      ·have HA := aside (show ∀ j, j < k + 1 → Op.bytesLess (S j).toList (S (j + 1)).toList = true from fun j hj => by
         by_cases e : j = k
         ·rw [e]; exact he
         ·exact hall.out j (by omega))
       go_wp2_with fail
       refine wp_region_held_drew (S := fun X => X.cell? ⟨b, off + (k + 1), none⟩ = some (.string (S (k + 1))) ∧ X.cell? ⟨b, off + k, none⟩ = some (.string (S k)) ∧ Hid (Below w.heap.size w X)) (by kernel_rfl) ⟨c1, c0, aside HX.out.drew⟩ (fun hHeld => ?_)
       refine tk 0 rfl _ ?_; refine tk 1 rfl _ ?_; refine tk 2 rfl _ ?_; refine tk 3 rfl _ ?_; refine tk 4 rfl _ ?_; refine tk 5 rfl _ ?_; refine tk 6 rfl _ ?_; refine tk 7 rfl _ ?_; refine tk 8 rfl _ ?_; refine tk 9 rfl _ ?_
       refine wpAnyH_done (by kernel_rfl) ?_ _
       have HY := aside hHeld.2.2.out
       clear hHeld c0 c1
       clear hle he
       go_wp2
       go_roundw
       case rel => exact ⟨k + 1, .inr (by omega), by go_num, HA, HY.out⟩
       case measure => simp [intOf]; omega
    ·have HR := aside (riseK_true (S := S) (n := len) (fun j hj => hall.out j (by omega)))
     clear hnx
     have HZ := aside (show keyE S len = 0 from by unfold keyE; rw [HL.out, HR.out]; rfl)
     go_wp2
     go_ret
     exact ⟨by rw [HZ.out]; rfl, HX.out⟩
theorem infoInt : (Tryz.prog.info? 3).map (fun i => (i.zero, i.size, i.bytes)) = some (some (.int .i64 0), 1, 8) := by kernel_rfl
def sttCells (n p k : Nat) : List Value := (List.range k).map fun j => .int .i64 (stt n p j : Int)
theorem sttCells_succ (n p k : Nat) : sttCells n p (k + 1) = sttCells n p k ++ [.int .i64 (stt n p k : Int)] := by
 unfold sttCells; rw [List.range_succ, List.map_append]; rfl
theorem stt_at {w : World} {B g p cap n : Nat} (h : w.ownsRow B 3 1 (.slice (some ⟨g, 0, none⟩) p cap) p (sttCells n p p)) {j : Nat} (hj : j < p) : w.cell? ⟨g, j, none⟩ = some (.int .i64 (stt n p j : Int)) := by
 have c := h.cells (g := g) rfl j (.int .i64 (stt n p j : Int)) (by unfold sttCells; rw [List.getElem?_map, List.getElem?_range hj]; rfl)
 have e : (⟨g, 0, none⟩ : Addr).add j = ⟨g, 0 + j, none⟩ := by unfold Addr.add; split <;> simp_all
 rw [e, Nat.zero_add] at c
 exact c
theorem quo_stt (k n p : Nat) : ((k : Int) * (n : Int)).tdiv (p : Int) = ((stt n p k : Nat) : Int) := by
 rw [Int.tdiv_eq_ediv_of_nonneg (Int.mul_nonneg (by omega) (by omega))]
 unfold stt
 rw [Int.natCast_ediv, Int.natCast_mul]
theorem mul_small {k n : Nat} (hk : k ≤ 256) (hn : n ≤ 256) : IntKind.i64.wrap ((k : Int) * (n : Int)) = (k : Int) * (n : Int) := by
 have h1 : (k : Int) * (n : Int) ≤ 256 * 256 := Int.mul_le_mul (by omega) (by omega) (by omega) (by omega)
 have h2 : 0 ≤ (k : Int) * (n : Int) := Int.mul_nonneg (by omega) (by omega)
 rw [IntKind.wrap_i64]; omega
set_option maxHeartbeats 3200000 in
set_option maxRecDepth 100000 in
theorem starts_any (n p : Nat) (w : World) (hp : 1 ≤ p) (hpn : p ≤ n) (hn : n ≤ 256) : Calls Tryz.prog 148 #[.int .i64 (n : Int), .int .i64 (p : Int)] w fun e w' => ∃ g cp, e = .returned (.tuple #[.slice (some ⟨g, 0, none⟩) p cp, .int .i64 0]) ∧ w'.ownsRow w.heap.size 3 1 (.slice (some ⟨g, 0, none⟩) p cp) p (sttCells n p p) ∧ g < w'.heap.size ∧ Below w.heap.size w w' := by
    obtain ⟨i0, hi0, hz0, hz1, hz2⟩ := info_parts infoInt
    have g1 : ¬ ((n : Int) < 1) := by omega
    have g2 : ¬ (256 < (n : Int)) := by omega
    have g3 : ¬ ((p : Int) < 1) := by omega
    have g4 : ¬ ((n : Int) < (p : Int)) := by omega
    have g5 : ¬ ((p : Int) = 0) := by omega
    go_enter Tryz.func148, Tryz.ntmps148
    go_wp2_with (at_make; refine wpList_make_own _ rfl _ _ 189 rfl w.heap.size 3 i0 (.int .i64 0) 1 Tryz.underlying189 hi0 hz0 hz1 _ _ _ p rfl rfl ?b1 ?b2 ?b3 (by simp) ?_)
    case b1 => omega
    case b2 => omega
    case b3 => unfold maxLen; omega
    intro w0 hown0 hgrow0
    have hb0 : Below w.heap.size w w0 := (Below.refl _ w).grown hgrow0 (Nat.le_refl _) (fun k e => by cases e)
    clear hgrow0
    go_wp2
    go_loopw [6, 26] (fun v i wr => ∃ k : Nat, k ≤ p ∧ i = .int .i64 (k : Int) ∧ wr.ownsRow w.heap.size 3 1 v k (sttCells n p k) ∧ (0 < k → ∃ g cp, v = .slice (some ⟨g, 0, none⟩) k cp) ∧ Below w.heap.size w wr) (fun _ i _ => p - (intOf i).toNat)
    case atStart => exact ⟨0, Nat.zero_le _, rfl, hown0, fun h => by omega, hb0⟩
    case round =>
     obtain ⟨k, hk, rfl, hown, hform, hnx⟩ := hrel
     by_cases hlt : (k : Int) < (p : Int)
     ·have hmul := mul_small (k := k) (n := n) (by omega) hn
      have hquo := quo_stt k n p
      have hqw : IntKind.i64.wrap ((k : Int) + 1) = (k : Int) + 1 := by rw [IntKind.wrap_i64]; omega
      have hle := stt_le (n := n) (p := p) (j := k) hp (by omega)
      have hsw : IntKind.i64.wrap ((stt n p k : Nat) : Int) = ((stt n p k : Nat) : Int) := by rw [IntKind.wrap_i64]; omega
      have HS := aside (sttCells_succ n p k)
      generalize stt n p k = x at *
      clear hle hown0 hb0
      go_wp2_with (at_builtin; refine wpList_append_lies _ rfl _ _ _ rfl w.heap.size 3 i0 (.int .i64 0) 1 8 Tryz.underlying189 hi0 hz0 hz1 hz2 rfl (by decide) _ _ _ (by rfl) (hown.alloc _) ⟨wr.heap.size, 0, none⟩ 1 1 [.int .i64 (x : Int)] (by rfl) (by rfl) (World.news_of_block (cs := #[.int .i64 (x : Int)]) (t := 3) (fr := (0, 0)) (heap_alloc_new wr _)) (by simp [Value.oneCell']) (by omega) (by unfold maxLen; omega) (by omega) (by have := hnx.size; simp; omega) (wr.heap.size + 1) (by simp) ?_; intro g cp w1 hown1 hgrow hat hlt1; refine Hid.out ?_)
      refine aside ?_
      have HO := aside (show w1.ownsRow w.heap.size 3 1 (.slice (some ⟨g, 0, none⟩) (k + 1) cp) (k + 1) (sttCells n p (k + 1)) from by rw [HS.out]; exact hown1)
      have HB := aside (show Below w.heap.size w w1 from (hnx.alloc hnx.size _).grown hgrow (by have := hnx.size; simp; omega) (fun j hj => (hown.lt j hj).1))
      clear hown hown1 hgrow hat hlt1 hform hnx
      go_wp2
      go_roundw
      case rel => exact ⟨k + 1, by omega, by go_num, HO.out, fun _ => ⟨g, cp, rfl⟩, HB.out⟩
      case measure => simp [intOf]; omega
     ·obtain rfl : p = k := by omega
      obtain ⟨g, cp, rfl⟩ := hform (by omega)
      have HO := aside hown
      have HB := aside hnx
      clear hown hnx hown0 hb0
      go_wp2
      exact bodyPost_ret (v := .tuple #[.slice (some ⟨g, 0, none⟩) p cp, .int .i64 0]) (by simp [results, Tryz.results148, go_sem]) rfl ⟨g, cp, rfl, HO.out, (HO.out.lt g rfl).2, HB.out⟩
set_option maxHeartbeats 3200000 in
set_option maxRecDepth 100000 in
theorem rstarts_any (n p : Nat) (w : World) (hp : 1 ≤ p) (hpn : p ≤ n) (hn : n ≤ 256) : Calls Tryz.prog 128 #[.int .i64 (n : Int), .int .i64 (p : Int)] w fun e w' => ∃ g cp, e = .returned (.tuple #[.slice (some ⟨g, 0, none⟩) p cp, .int .i64 0]) ∧ w'.ownsRow w.heap.size 3 1 (.slice (some ⟨g, 0, none⟩) p cp) p (sttCells n p p) ∧ g < w'.heap.size ∧ Below w.heap.size w w' := by
    obtain ⟨i0, hi0, hz0, hz1, hz2⟩ := info_parts infoInt
    have g1 : ¬ ((n : Int) < 1) := by omega
    have g2 : ¬ (256 < (n : Int)) := by omega
    have g3 : ¬ ((p : Int) < 1) := by omega
    have g4 : ¬ ((n : Int) < (p : Int)) := by omega
    have g5 : ¬ ((p : Int) = 0) := by omega
    go_enter Tryz.func128, Tryz.ntmps128
    have hown0 : (w.alloc (.cells #[] 3)).ownsRow w.heap.size 3 1 (.slice (some ⟨w.heap.size, 0, none⟩) 0 0) 0 [] := World.ownsRow_made w #[] 0 (Nat.le_refl _) (Nat.zero_le _) rfl
    have hb0 := (Below.refl _ w).alloc (Nat.le_refl _) (.cells #[] 3)
    go_wp2
    go_loopw [6, 7] (fun v i wr => ∃ k : Nat, k ≤ p ∧ i = .int .i64 (k : Int) ∧ wr.ownsRow w.heap.size 3 1 v k (sttCells n p k) ∧ (0 < k → ∃ g cp, v = .slice (some ⟨g, 0, none⟩) k cp) ∧ Below w.heap.size w wr) (fun _ i _ => p - (intOf i).toNat)
    case atStart => exact ⟨0, Nat.zero_le _, rfl, hown0, fun h => by omega, hb0⟩
    case round =>
     obtain ⟨k, hk, rfl, hown, hform, hnx⟩ := hrel
     by_cases hlt : (k : Int) < (p : Int)
     ·have hmul := mul_small (k := k) (n := n) (by omega) hn
      have hquo := quo_stt k n p
      have hqw : IntKind.i64.wrap ((k : Int) + 1) = (k : Int) + 1 := by rw [IntKind.wrap_i64]; omega
      have hle := stt_le (n := n) (p := p) (j := k) hp (by omega)
      have hsw : IntKind.i64.wrap ((stt n p k : Nat) : Int) = ((stt n p k : Nat) : Int) := by rw [IntKind.wrap_i64]; omega
      have HS := aside (sttCells_succ n p k)
      generalize stt n p k = x at *
      clear hle hown0 hb0
      go_wp2_with (at_builtin; refine wpList_append_lies _ rfl _ _ _ rfl w.heap.size 3 i0 (.int .i64 0) 1 8 Tryz.underlying189 hi0 hz0 hz1 hz2 rfl (by decide) _ _ _ (by rfl) (hown.alloc _) ⟨wr.heap.size, 0, none⟩ 1 1 [.int .i64 (x : Int)] (by rfl) (by rfl) (World.news_of_block (cs := #[.int .i64 (x : Int)]) (t := 3) (fr := (0, 0)) (heap_alloc_new wr _)) (by simp [Value.oneCell']) (by omega) (by unfold maxLen; omega) (by omega) (by have := hnx.size; simp; omega) (wr.heap.size + 1) (by simp) ?_; intro g cp w1 hown1 hgrow hat hlt1; refine Hid.out ?_)
      refine aside ?_
      have HO := aside (show w1.ownsRow w.heap.size 3 1 (.slice (some ⟨g, 0, none⟩) (k + 1) cp) (k + 1) (sttCells n p (k + 1)) from by rw [HS.out]; exact hown1)
      have HB := aside (show Below w.heap.size w w1 from (hnx.alloc hnx.size _).grown hgrow (by have := hnx.size; simp; omega) (fun j hj => (hown.lt j hj).1))
      clear hown hown1 hgrow hat hlt1 hform hnx
      go_wp2
      go_roundw
      case rel => exact ⟨k + 1, by omega, by go_num, HO.out, fun _ => ⟨g, cp, rfl⟩, HB.out⟩
      case measure => simp [intOf]; omega
     ·obtain rfl : p = k := by omega
      obtain ⟨g, cp, rfl⟩ := hform (by omega)
      have HO := aside hown
      have HB := aside hnx
      clear hown hnx hown0 hb0
      go_wp2
      exact bodyPost_ret (v := .tuple #[.slice (some ⟨g, 0, none⟩) p cp, .int .i64 0]) (by simp [results, Tryz.results128, go_sem]) rfl ⟨g, cp, rfl, HO.out, (HO.out.lt g rfl).2, HB.out⟩
def bdr (n p : Nat) (S : Nat → ByteArray) (j : Nat) : ByteArray := S (stt n p (j + 1))
theorem strUpto_succ (f : Nat → ByteArray) (k : Nat) : strCells (strUpto f (k + 1)) = strCells (strUpto f k) ++ [.string (f k)] := by
 unfold strCells strUpto
 rw [List.range_succ, List.map_append, List.map_append]
 rfl
theorem strs_own {w : World} {B g n cap : Nat} {f : Nat → ByteArray} (h : w.ownsRow B 9 1 (.slice (some ⟨g, 0, none⟩) n cap) n (strCells (strUpto f n))) (hb : n * 16 ≤ 281474976710656) : StrsIn w.heap.size w (some ⟨g, 0, none⟩) n cap f := by
 have hcap : n ≤ cap ∧ g < w.heap.size := by
  rcases h.2 with ⟨h1, -⟩ | ⟨g', cap', cur, h1, -, h3, h2, -⟩
  ·cases h1
  ·cases h1; exact ⟨h2, lies h3⟩
 refine ⟨hcap.1, hb, .inr ⟨g, 0, rfl, hcap.2, fun i hi => ?_⟩⟩
 have c := h.cells (g := g) rfl i (.string (f i)) (by unfold strCells strUpto; rw [List.getElem?_map, List.getElem?_map, List.getElem?_range hi]; rfl)
 have e : (⟨g, 0, none⟩ : Addr).add i = ⟨g, 0 + i, none⟩ := by unfold Addr.add; split <;> simp_all
 rwa [e] at c
set_option maxHeartbeats 6400000 in
set_option maxRecDepth 100000 in
theorem bordersOf_any (a : Option Addr) (n cap q : Nat) (S : Nat → ByteArray) (w : World) (h : StrsIn w.heap.size w a n cap S) (hqn : q + 1 ≤ n) (hn : n ≤ 256) :
    Calls Tryz.prog 138 #[.slice a n cap, .int .i64 ((q : Int) + 1)] w fun e w' => ∃ g cp, e = .returned (.tuple #[.slice (some ⟨g, 0, none⟩) q cp, .int .i64 0]) ∧ w'.ownsRow w.heap.size 9 1 (.slice (some ⟨g, 0, none⟩) q cp) q (strCells (strUpto (bdr n (q + 1) S) q)) ∧ g < w'.heap.size ∧ Below w.heap.size w w' := by
 obtain ⟨i0, hi0, hz0, hz1, hz2⟩ := infoStr_parts
 have hlc := h.1
 have HH := aside h.2.2
 clear h
 go_enter Tryz.func138, Tryz.ntmps138
 go_wp2_with fail
 refine (starts_any n (q + 1) _ (by omega) hqn hn).mono ?_
 rintro e w1 ⟨g1, c1, rfl, o1, l1, b1⟩
 have O1 := aside o1
 have B1 := aside b1
 have HB1 := aside b1.size
 have L1 := aside l1
 have hpw : IntKind.i64.wrap (q : Int) = (q : Int) := by rw [IntKind.wrap_i64]; omega
 have hpc : q + 1 ≤ c1 := by
  rcases o1.2 with ⟨h1, -⟩ | ⟨g', cap', cur, h1, -, -, h2, -⟩
  ·cases h1
  ·cases h1; exact h2
 have h0p : (0 : Int) ≤ (q : Int) := by omega
 clear o1 b1 l1
 go_wp2_with (at_make; refine wpList_make_own _ rfl _ _ 143 rfl w1.heap.size 9 i0 (.string ⟨#[]⟩) 1 Tryz.underlying143 hi0 hz0 hz1 _ _ _ q rfl rfl ?b1 ?b2 ?b3 (by simp) ?_)
 case b1 => omega
 case b2 => first | omega | (rw [hz2]; omega)
 case b3 => unfold maxLen; omega
 intro w2 hown0 hgrow0
 have hb2 : Below w1.heap.size w1 w2 := (Below.refl _ w1).grown hgrow0 (Nat.le_refl _) (fun k e => by cases e)
 have HO0 := aside hown0
 have HB2 := aside hb2
 clear hown0 hgrow0 hb2
 by_cases hc1 : c1 = 1
 ·obtain rfl : q = 0 := by omega
  subst hc1
  go_wp2
  go_loopw [8, 27] (fun v i wr => ∃ g cp, v = .slice (some ⟨g, 0, none⟩) 0 cp ∧ i = .int .i64 0 ∧ wr.ownsRow w1.heap.size 9 1 (.slice (some ⟨g, 0, none⟩) 0 cp) 0 [] ∧ Below w1.heap.size w1 wr) (fun _ _ _ => 0)
  case atStart => exact ⟨_, _, rfl, rfl, HO0.out, HB2.out⟩
  case round =>
   obtain ⟨g, cp, rfl, rfl, hown, hnx⟩ := hrel
   have HO := aside hown
   have HX := aside hnx
   clear hown hnx
   go_wp2
   exact bodyPost_ret (v := .tuple #[.slice (some ⟨g, 0, none⟩) 0 cp, .int .i64 0]) (by simp [results, Tryz.results138, go_sem]) rfl ⟨g, cp, rfl, row_base HO.out HB1.out, (HO.out.lt g rfl).2, B1.out.trans (HX.out.mono HB1.out)⟩
 ·have hp1 : (1 : Int) ≤ (q : Int) + 1 := by omega
  go_wp2
  go_loopw [8, 27] (fun v i wr => ∃ g k cp, k ≤ q ∧ v = .slice (some ⟨g, 0, none⟩) k cp ∧ i = .int .i64 ((k : Nat) : Int) ∧ wr.ownsRow w1.heap.size 9 1 (.slice (some ⟨g, 0, none⟩) k cp) k (strCells (strUpto (bdr n (q + 1) S) k)) ∧ Below w1.heap.size w1 wr) (fun _ i _ => q - (intOf i).toNat)
  case atStart => exact ⟨_, 0, _, Nat.zero_le _, rfl, rfl, HO0.out, HB2.out⟩
  case round =>
   obtain ⟨g, k, cp, hk, rfl, rfl, hown, hnx⟩ := hrel
   have HX := aside hnx
   by_cases hlt : (k : Int) < (q : Int)
   ·have hx := stt_lt (n := n) (p := q + 1) (j := k + 1) (by omega) (by omega) (by omega)
    have d0 : wr.cell? ⟨g1, 1 + k, none⟩ = some (.int .i64 (stt n (q + 1) (k + 1) : Int)) := by
     have := (hnx.cell (p := ⟨g1, k + 1, none⟩) L1.out).trans (stt_at O1.out (j := k + 1) (by omega))
     first | exact this | (rw [Nat.add_comm 1 k]; exact this)
    have HS := aside (strUpto_succ (bdr n (q + 1) S) k)
    have hbd : bdr n (q + 1) S k = S (stt n (q + 1) (k + 1)) := rfl
    rcases HH.out with h0 | ⟨b, off, rfl, hb, hc⟩
    ·omega
    have c0 := (HX.out.cell (p := ⟨b, off + stt n (q + 1) (k + 1), none⟩) (Nat.lt_of_lt_of_le hb HB1.out)).trans ((B1.out.cell (p := ⟨b, off + stt n (q + 1) (k + 1), none⟩) hb).trans (hc _ hx))
    rw [← hbd] at c0
    generalize bdr n (q + 1) S k = y at *
    generalize stt n (q + 1) (k + 1) = x at *
    have hx0 : (0 : Int) ≤ (x : Int) := by omega
    have hx1 : (x : Int) < (n : Int) := by omega
    have hk0 : (0 : Int) ≤ (k : Int) := by omega
    have hk1 : (0 : Int) ≤ (k : Int) + 1 := by omega
    have hqw : IntKind.i64.wrap ((k : Int) + 1) = (k : Int) + 1 := by rw [IntKind.wrap_i64]; omega
    have hqw2 : IntKind.i64.wrap ((k : Int) + 1 + 1) = (k : Int) + 1 + 1 := by rw [IntKind.wrap_i64]; omega
    skip
    have HNS := aside hnx.size
    clear hc hbd hnx
    go_wp2_with (at_builtin; refine wpList_append_lies _ rfl _ _ _ rfl w1.heap.size 9 i0 (.string ⟨#[]⟩) 1 16 Tryz.underlying143 hi0 hz0 hz1 hz2 rfl (by decide) _ _ _ (by rfl) (hown.alloc _) ⟨wr.heap.size, 0, none⟩ 1 1 [.string y] (by rfl) (by rfl) (World.news_of_block (cs := #[.string y]) (t := 9) (fr := (0, 0)) (heap_alloc_new wr _)) (by simp [Value.oneCell']) (by omega) (by unfold maxLen; omega) (by omega) (by have := HNS.out; simp; omega) (wr.heap.size + 1) (by simp) ?_; intro g5 cp5 w5 hown1 hgrow hat hlt1; refine Hid.out ?_)
    refine aside ?_
    have HO := aside (show w5.ownsRow w1.heap.size 9 1 (.slice (some ⟨g5, 0, none⟩) (k + 1) cp5) (k + 1) (strCells (strUpto (bdr n (q + 1) S) (k + 1))) from by rw [HS.out]; exact hown1)
    have HY := aside (show Below w1.heap.size w1 w5 from (HX.out.alloc HX.out.size _).grown hgrow (by have := HX.out.size; simp; omega) (fun j hj => (hown.lt j hj).1))
    clear hown hown1 hgrow hat hlt1 c0 d0
    go_wp2
    go_roundw
    case rel => exact ⟨g5, k + 1, cp5, by omega, by rfl, by go_num, HO.out, HY.out⟩
    case measure => simp [intOf]; omega
   ·obtain rfl : q = k := by omega
    have HO := aside hown
    clear hown hnx
    go_wp2
    exact bodyPost_ret (v := .tuple #[.slice (some ⟨g, 0, none⟩) q cp, .int .i64 0]) (by simp [results, Tryz.results138, go_sem]) rfl ⟨g, cp, rfl, row_base HO.out HB1.out, (HO.out.lt g rfl).2, B1.out.trans (HX.out.mono HB1.out)⟩
set_option maxHeartbeats 6400000 in
set_option maxRecDepth 100000 in
theorem rborders_ok (a : Option Addr) (n cap q : Nat) (S : Nat → ByteArray) (w : World) (h : StrsIn w.heap.size w a n cap S) (hc : keyE S n = 0) (hqn : q + 1 ≤ n) (hn : n ≤ 256) :
    Calls Tryz.prog 107 #[.slice a n cap, .int .i64 ((q : Int) + 1)] w fun e w' => ∃ g cp, e = .returned (.tuple #[.slice (some ⟨g, 0, none⟩) q cp, .int .i64 0]) ∧ w'.ownsRow w.heap.size 9 1 (.slice (some ⟨g, 0, none⟩) q cp) q (strCells (strUpto (bdr n (q + 1) S) q)) ∧ g < w'.heap.size ∧ Below w.heap.size w w' := by
 obtain ⟨i0, hi0, hz0, hz1, hz2⟩ := infoStr_parts
 have H := aside (rrise_any a n cap S w h)
 have hlc := h.1
 have HH := aside h.2.2
 rw [hc] at H
 clear h hc
 go_enter Tryz.func107, Tryz.ntmps107
 go_wp2_with fail
 refine H.out.mono ?_
 rintro e w0 ⟨rfl, b0⟩
 have B0 := aside b0
 clear b0
 go_wp2_with fail
 refine (rstarts_any n (q + 1) _ (by omega) hqn hn).mono ?_
 rintro e w1 ⟨g1, c1, rfl, o1, l1, b1⟩
 have O1 := aside o1
 have B1 := aside (bthen B0.out b1)
 have HB1 := aside B1.out.size
 have L1 := aside l1
 have hpc : q + 1 ≤ c1 := by
  rcases o1.2 with ⟨h1, -⟩ | ⟨g', cap', cur, h1, -, -, h2, -⟩
  ·cases h1
  ·cases h1; exact h2
 have HO0 : Hid ((w1.alloc (.cells #[] 9)).ownsRow w1.heap.size 9 1 (.slice (some ⟨w1.heap.size, 0, none⟩) 0 0) 0 []) := aside (World.ownsRow_made w1 #[] 0 (Nat.le_refl _) (Nat.zero_le _) rfl)
 have HB2 := aside (bnew w1 (.cells #[] 9))
 clear o1 b1 l1
 go_wp2
 go_loopw [9, 10] (fun v i wr => ∃ g k cp, k ≤ q ∧ v = .slice (some ⟨g, 0, none⟩) k cp ∧ i = .int .i64 ((k : Int) + 1) ∧ wr.ownsRow w1.heap.size 9 1 (.slice (some ⟨g, 0, none⟩) k cp) k (strCells (strUpto (bdr n (q + 1) S) k)) ∧ Below w1.heap.size w1 wr) (fun _ i _ => q + 1 - (intOf i).toNat)
 case atStart => exact ⟨_, 0, _, Nat.zero_le _, rfl, rfl, HO0.out, HB2.out⟩
 case round =>
  obtain ⟨g, k, cp, hk, rfl, rfl, hown, hnx⟩ := hrel
  have HX := aside hnx
  by_cases hlt : (k : Int) + 1 < (q : Int) + 1
  ·have hx := stt_lt (n := n) (p := q + 1) (j := k + 1) (by omega) (by omega) (by omega)
   have d0 : wr.cell? ⟨g1, k + 1, none⟩ = some (.int .i64 (stt n (q + 1) (k + 1) : Int)) := by
    have := (hnx.cell (p := ⟨g1, k + 1, none⟩) L1.out).trans (stt_at O1.out (j := k + 1) (by omega))
    first | exact this | (rw [Nat.add_comm 1 k]; exact this)
   have HS := aside (strUpto_succ (bdr n (q + 1) S) k)
   have hbd : bdr n (q + 1) S k = S (stt n (q + 1) (k + 1)) := rfl
   rcases HH.out with h0 | ⟨b, off, rfl, hb, hc⟩
   ·omega
   have c0 := (HX.out.cell (p := ⟨b, off + stt n (q + 1) (k + 1), none⟩) (Nat.lt_of_lt_of_le hb HB1.out)).trans ((B1.out.cell (p := ⟨b, off + stt n (q + 1) (k + 1), none⟩) hb).trans (hc _ hx))
   rw [← hbd] at c0
   generalize bdr n (q + 1) S k = y at *
   generalize stt n (q + 1) (k + 1) = x at *
   have hx0 : (0 : Int) ≤ (x : Int) := by omega
   have hx1 : (x : Int) < (n : Int) := by omega
   have hk0 : (0 : Int) ≤ (k : Int) := by omega
   have hk1 : (0 : Int) ≤ (k : Int) + 1 := by omega
   have hqw : IntKind.i64.wrap ((k : Int) + 1) = (k : Int) + 1 := by rw [IntKind.wrap_i64]; omega
   have hqw2 : IntKind.i64.wrap ((k : Int) + 1 + 1) = (k : Int) + 1 + 1 := by rw [IntKind.wrap_i64]; omega
   have hlt2 : (k : Int) < (q : Int) := by omega
   have HNS := aside hnx.size
   clear hc hbd hnx
   go_wp2_with (at_builtin; refine wpList_append_lies _ rfl _ _ _ rfl w1.heap.size 9 i0 (.string ⟨#[]⟩) 1 16 Tryz.underlying143 hi0 hz0 hz1 hz2 rfl (by decide) _ _ _ (by rfl) (hown.alloc _) ⟨wr.heap.size, 0, none⟩ 1 1 [.string y] (by rfl) (by rfl) (World.news_of_block (cs := #[.string y]) (t := 9) (fr := (0, 0)) (heap_alloc_new wr _)) (by simp [Value.oneCell']) (by omega) (by unfold maxLen; omega) (by omega) (by have := HNS.out; simp; omega) (wr.heap.size + 1) (by simp) ?_; intro g5 cp5 w5 hown1 hgrow hat hlt1; refine Hid.out ?_)
   refine aside ?_
   have HO := aside (show w5.ownsRow w1.heap.size 9 1 (.slice (some ⟨g5, 0, none⟩) (k + 1) cp5) (k + 1) (strCells (strUpto (bdr n (q + 1) S) (k + 1))) from by rw [HS.out]; exact hown1)
   have HY := aside (show Below w1.heap.size w1 w5 from (HX.out.alloc HX.out.size _).grown hgrow (by have := HX.out.size; simp; omega) (fun j hj => (hown.lt j hj).1))
   clear hown hown1 hgrow hat hlt1 c0 d0
   go_wp2
   go_roundw
   case rel => exact ⟨g5, k + 1, cp5, by omega, by rfl, by go_num, HO.out, HY.out⟩
   case measure => simp [intOf]; omega
  ·obtain rfl : q = k := by omega
   have HO := aside hown
   clear hown hnx
   go_wp2
   exact bodyPost_ret (v := .tuple #[.slice (some ⟨g, 0, none⟩) q cp, .int .i64 0]) (by simp [results, Tryz.results107, go_sem]) rfl ⟨g, cp, rfl, row_base HO.out HB1.out, (HO.out.lt g rfl).2, B1.out.trans (HX.out.mono HB1.out)⟩
end Go.Proofs.YtpbkjffiohfkcaaGreatDoor

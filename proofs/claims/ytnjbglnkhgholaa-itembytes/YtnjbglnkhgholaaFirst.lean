/-
  firstNum: it returns the number that the text begins with, its length and the error, as Nm.first says; the world is as it was.
-/
import Derived.Test.YtnjbglnkhgholaaRd
import Derived.Test.YtnjbglnkhgholaaNumPlain
import Derived.WalkMore
namespace Go.Proofs.Ytnjbglnkhgholaa
open Go.RowKit
set_option linter.unusedVariables false

/-- A number, its length, an error, as Go hands them back. -/
def triple (r : Int × Int × Int) : Value := .tuple #[.int .i64 r.1, .int .i64 r.2.1, .int .i64 r.2.2]

def FirstRel (l : List UInt8) (n size : Value) : Prop :=
  ∃ j acc : Nat, n = .int .i64 (acc : Int) ∧ size = .int .i64 (j : Int) ∧ j ≤ 8 ∧ j ≤ l.length ∧ acc < 128 ^ j ∧ Nm.dec 8 l = Nm.cmb acc j (Nm.dec (8 - j) (l.drop j))

theorem firstRel_start (l : List UInt8) : FirstRel l (.int .i64 0) (.int .i64 0) := ⟨0, 0, rfl, rfl, by omega, by omega, by simp, by rw [Nm.cmb_zero]; rfl⟩

/-- What a round adds, in the walk's own spelling: nothing wraps. -/
theorem sum_eq (acc j : Nat) (c : UInt8) (hj : (j : Int) ≤ 8) (hacc : acc < 128 ^ j) : wrap64 ((acc : Int) + wrap64 ((c.toNat : Int) % 128 * 2 ^ (7 * j))) = ((acc + 128 ^ j * (c.toNat % 128) : Nat) : Int) := by
  have hj' : j = 0 ∨ j = 1 ∨ j = 2 ∨ j = 3 ∨ j = 4 ∨ j = 5 ∨ j = 6 ∨ j = 7 ∨ j = 8 := by omega
  have hc := c.toNat_lt
  rcases hj' with rfl | rfl | rfl | rfl | rfl | rfl | rfl | rfl | rfl
  all_goals
    simp only [Nat.reducePow, Nat.reduceMul, Int.reducePow] at hacc ⊢
    rw [IntWalk.wrap64_in ((c.toNat : Int) % 128 * _) ⟨by omega, by omega⟩, IntWalk.wrap64_in _ ⟨by omega, by omega⟩]
    omega

theorem pow_lt (acc j c : Nat) (hacc : acc < 128 ^ j) : acc + 128 ^ j * (c % 128) < 128 ^ (j + 1) := by
  rw [Nat.pow_succ]
  have h1 : c % 128 ≤ 127 := by omega
  have h2 := Nat.mul_le_mul_left (128 ^ j) h1
  omega

section
variable {l : List UInt8} {acc j : Nat} {c : UInt8} {r : List UInt8} {most : Int}

theorem dec_here (hD : Nm.dec 8 l = Nm.cmb acc j (Nm.dec (8 - j) (l.drop j))) (hC : l.drop j = c :: r) (_h : (c.toNat : Int) < 128) (hn : ¬ (0 < j ∧ c.toNat = 0)) : Nm.dec 8 l = (acc + 128 ^ j * (c.toNat % 128), j + 1, 0) := by
  rw [hD, hC, Nm.cmb_last acc j _ c r (by omega), if_neg hn, Nat.mod_eq_of_lt (show c.toNat < 128 from by omega)]

theorem way_zero (hD : Nm.dec 8 l = Nm.cmb acc j (Nm.dec (8 - j) (l.drop j))) (hC : l.drop j = c :: r) (_h : (c.toNat : Int) < 128) (_h1 : (1 : Int) < (j : Int) + 1) (h2 : ((c.toNat : Int) == 0) = true) : triple (Nm.first l most) = .tuple #[.int .i64 0, .int .i64 0, .int .i64 11] := by
  have h2' : c.toNat = 0 := by rw [beq_iff_eq] at h2; omega
  have : Nm.dec 8 l = (0, 0, 11) := by rw [hD, hC, Nm.cmb_last acc j _ c r (by omega), if_pos ⟨by omega, h2'⟩]
  rw [Nm.first_bad this (by omega)]; rfl

theorem way_big (hD : Nm.dec 8 l = Nm.cmb acc j (Nm.dec (8 - j) (l.drop j))) (hC : l.drop j = c :: r) (hj : (j : Int) ≤ 8) (hA : acc < 128 ^ j) (h : (c.toNat : Int) < 128) (hn : ¬ (0 < j ∧ c.toNat = 0)) (hm : most < wrap64 ((acc : Int) + wrap64 ((c.toNat : Int) % 128 * 2 ^ (7 * j)))) :
    triple (Nm.first l most) = .tuple #[.int .i64 0, .int .i64 0, .int .i64 12] := by
  rw [Nm.first_big (dec_here hD hC h hn) (by rw [← sum_eq acc j c hj hA]; exact hm)]; rfl

theorem way_ok (hD : Nm.dec 8 l = Nm.cmb acc j (Nm.dec (8 - j) (l.drop j))) (hC : l.drop j = c :: r) (hj : (j : Int) ≤ 8) (hA : acc < 128 ^ j) (h : (c.toNat : Int) < 128) (hn : ¬ (0 < j ∧ c.toNat = 0)) (hm : wrap64 ((acc : Int) + wrap64 ((c.toNat : Int) % 128 * 2 ^ (7 * j))) ≤ most) :
    triple (Nm.first l most) = .tuple #[.int .i64 (wrap64 ((acc : Int) + wrap64 ((c.toNat : Int) % 128 * 2 ^ (7 * j)))), .int .i64 ((j : Int) + 1), .int .i64 0] := by
  have e := sum_eq acc j c hj hA
  rw [Nm.first_ok (dec_here hD hC h hn) (by rw [← e]; omega), e]; rfl

theorem way_long (hD : Nm.dec 8 l = Nm.cmb acc j (Nm.dec (8 - j) (l.drop j))) (hC : l.drop j = c :: r) (hj : (j : Int) ≤ 8) (h : (128 : Int) ≤ c.toNat) (h9 : (9 : Int) ≤ (j : Int) + 1) : triple (Nm.first l most) = .tuple #[.int .i64 0, .int .i64 0, .int .i64 11] := by
  have e : 8 - j = 0 := by omega
  have : Nm.dec 8 l = (0, 0, 11) := by rw [hD, hC, e, Nm.cmb_long acc j c r (by omega)]
  rw [Nm.first_bad this (by omega)]; rfl

theorem way_short (hD : Nm.dec 8 l = Nm.cmb acc j (Nm.dec (8 - j) (l.drop j))) (hC : l.drop j = []) : triple (Nm.first l most) = .tuple #[.int .i64 0, .int .i64 0, .int .i64 10] := by
  have : Nm.dec 8 l = (0, 0, 10) := by rw [hD, hC, Nm.cmb_nil]
  rw [Nm.first_bad this (by omega)]; rfl

theorem way_round (hD : Nm.dec 8 l = Nm.cmb acc j (Nm.dec (8 - j) (l.drop j))) (hC : l.drop j = c :: l.drop (j + 1)) (hj : (j : Int) ≤ 8) (hA : acc < 128 ^ j) (hl : (j : Int) < (l.length : Int)) (h : (128 : Int) ≤ c.toNat) (h9 : (j : Int) + 1 < 9) :
    FirstRel l (.int .i64 (wrap64 ((acc : Int) + wrap64 ((c.toNat : Int) % 128 * 2 ^ (7 * j))))) (.int .i64 ((j : Int) + 1)) := by
  have hb := c.toNat_lt
  refine ⟨j + 1, acc + 128 ^ j * (c.toNat % 128), by rw [sum_eq acc j c hj hA], rfl, by omega, by omega, pow_lt acc j c.toNat hA, ?_⟩
  rw [hD, hC, show 8 - j = (8 - (j + 1)) + 1 from by omega, Nm.cmb_step acc j _ c _ (by omega)]
  rw [Nat.mul_comm (c.toNat - 128), show c.toNat - 128 = c.toNat % 128 from by omega]

theorem nz_beq (h : ((c.toNat : Int) == 0) = false) : ¬ (0 < j ∧ c.toNat = 0) := fun x => by rw [beq_eq_false_iff_ne] at h; omega
theorem nz_j (_h : (j : Int) + 1 ≤ 1) : ¬ (0 < j ∧ c.toNat = 0) := fun x => by omega
end

set_option maxHeartbeats 1600000 in
set_option maxRecDepth 100000 in
theorem firstNum_any (s : ByteArray) (most : Int) (w : World) (hs : s.size ≤ 1099511627776) :
    Calls Try.prog 61 #[.string s, .int .i64 most] w fun e w' => e = .returned (triple (Nm.first s.data.toList most)) ∧ w' = w := by
  go_enter Try.func61, Try.ntmps61
  go_wp2
  go_step3
  go_wp2
  go_step3
  go_wp2
  go_loop [7, 8] (fun n size => FirstRel s.data.toList n size) (fun _ i => 9 - (intOf i).toNat)
  case atStart => exact firstRel_start _
  case round =>
    obtain ⟨j, acc, rfl, rfl, hj8, hjl, hacc, hdec⟩ := hrel
    have hlen : s.data.toList.length = s.size := by show s.data.toList.length = s.data.size; simp
    have HD := aside hdec
    have HA := aside hacc
    have hj : (j : Int) ≤ 8 := by omega
    clear hdec hacc hj8
    by_cases hend : j = s.size
    · have HE : Hid (triple (Nm.first s.data.toList most) = .tuple #[.int .i64 0, .int .i64 0, .int .i64 10]) := way_short HD.out (List.drop_of_length_le (by omega))
      have heq : ((j : Int) == (s.size : Int)) = true := by rw [beq_iff_eq]; omega
      clear hend hjl
      go_wp2
      go_ret3
      exact ⟨by rw [HE.out]; rfl, rfl⟩
    · have hlt : j < s.size := by omega
      have hix := idx_str' s j hlt (j : Int) rfl
      obtain ⟨c, hc⟩ : ∃ c, c = s[j] := ⟨_, rfl⟩
      have hdr := drop_one s j hlt
      rw [← hc] at hix hdr
      have HC := aside hdr
      clear hc hdr
      have hb := c.toNat_lt
      have hb' : (c.toNat : Int) < 256 := by omega
      have hlt' : (j : Int) < (s.size : Int) := by omega
      have hne : ((j : Int) == (s.size : Int)) = false := by rw [beq_eq_false_iff_ne]; omega
      clear hend hjl hlt hb
      have hjl' : (j : Int) < (s.data.toList.length : Int) := by omega
      have HJL := aside hjl'
      clear hjl'
      go_wp2
      · have H := way_zero (most := most) HD.out HC.out (by assumption) (by assumption) (by assumption)
        go_ret3
        exact ⟨by rw [H]; rfl, rfl⟩
      · have H := way_big (most := most) HD.out HC.out hj HA.out (by assumption) (nz_beq (by assumption)) (by assumption)
        go_ret3
        exact ⟨by rw [H]; rfl, rfl⟩
      · have H := way_ok (most := most) HD.out HC.out hj HA.out (by assumption) (nz_beq (by assumption)) (by assumption)
        go_ret3
        exact ⟨by rw [H]; rfl, rfl⟩
      · have H := way_big (most := most) HD.out HC.out hj HA.out (by assumption) (nz_j (by assumption)) (by assumption)
        go_ret3
        exact ⟨by rw [H]; rfl, rfl⟩
      · have H := way_ok (most := most) HD.out HC.out hj HA.out (by assumption) (nz_j (by assumption)) (by assumption)
        go_ret3
        exact ⟨by rw [H]; rfl, rfl⟩
      · have h9 : (j : Int) + 1 < 9 := by assumption
        go_round
        case rel => exact way_round HD.out HC.out hj HA.out HJL.out (by assumption) h9
        case measure => simp [intOf]; omega
      · have H := way_long (most := most) HD.out HC.out hj (by assumption) (by assumption)
        go_ret3
        exact ⟨by rw [H]; rfl, rfl⟩

end Go.Proofs.Ytnjbglnkhgholaa

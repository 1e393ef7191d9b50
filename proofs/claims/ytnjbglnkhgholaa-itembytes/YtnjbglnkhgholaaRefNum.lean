/-
  number and Num of the document's own reader: as Nm.first says; they read, and turn nothing but the reader.
-/
import Derived.Test.YtnjbglnkhgholaaRefRd
import Derived.Test.YtnjbglnkhgholaaFirst
namespace Go.Proofs.Ytnjbglnkhgholaa
open Go.RowKit
set_option linter.unusedVariables false

def NumberRel (L : List UInt8) (w : World) (n unit k : Value) (wr : World) : Prop :=
  ∃ j acc U m : Nat, n = .int .i64 (acc : Int) ∧ unit = .int .i64 (U : Int) ∧ k = .int .i64 (j : Int) ∧ U = 128 ^ j ∧ j ≤ 8 ∧ j ≤ L.length ∧ acc < 128 ^ j ∧ Nm.dec 8 L = Nm.cmb acc j (Nm.dec (8 - j) (L.drop j)) ∧ wr = w.drewN m

theorem sum_eqU (acc j U : Nat) (c : UInt8) (hU : U = 128 ^ j) (hj : (j : Int) ≤ 8) (hacc : acc < 128 ^ j) : wrap64 ((acc : Int) + wrap64 ((c.toNat : Int) % 128 * (U : Int))) = ((acc + 128 ^ j * (c.toNat % 128) : Nat) : Int) := by
  subst hU
  have hj' : j = 0 ∨ j = 1 ∨ j = 2 ∨ j = 3 ∨ j = 4 ∨ j = 5 ∨ j = 6 ∨ j = 7 ∨ j = 8 := by omega
  have hc := c.toNat_lt
  rcases hj' with rfl | rfl | rfl | rfl | rfl | rfl | rfl | rfl | rfl
  all_goals
    simp only [Nat.reducePow, Int.cast_ofNat_Int] at hacc ⊢
    rw [IntWalk.wrap64_in ((c.toNat : Int) % 128 * _) ⟨by omega, by omega⟩, IntWalk.wrap64_in _ ⟨by omega, by omega⟩]
    omega

theorem unit_eq (j U : Nat) (hU : U = 128 ^ j) (hj : (j : Int) < 8) : wrap64 ((U : Int) * 128) = ((128 ^ (j + 1) : Nat) : Int) := by
  subst hU
  have hj' : j = 0 ∨ j = 1 ∨ j = 2 ∨ j = 3 ∨ j = 4 ∨ j = 5 ∨ j = 6 ∨ j = 7 := by omega
  rcases hj' with rfl | rfl | rfl | rfl | rfl | rfl | rfl | rfl <;> rw [IntWalk.wrap64_in _ ⟨by omega, by omega⟩] <;> omega

section
variable {l : List UInt8} {acc j : Nat} {c : UInt8} {r : List UInt8} {most E : Int}
theorem wayE_big (hD : Nm.dec 8 l = Nm.cmb acc j (Nm.dec (8 - j) (l.drop j))) (hC : l.drop j = c :: r) (h : (c.toNat : Int) < 128) (hn : ¬ (0 < j ∧ c.toNat = 0)) (hE : E = ((acc + 128 ^ j * (c.toNat % 128) : Nat) : Int)) (hm : most < E) :
    triple (Nm.first l most) = .tuple #[.int .i64 0, .int .i64 0, .int .i64 12] := by
  rw [Nm.first_big (dec_here hD hC h hn) (by rw [← hE]; exact hm)]; rfl
theorem wayE_ok (hD : Nm.dec 8 l = Nm.cmb acc j (Nm.dec (8 - j) (l.drop j))) (hC : l.drop j = c :: r) (h : (c.toNat : Int) < 128) (hn : ¬ (0 < j ∧ c.toNat = 0)) (hE : E = ((acc + 128 ^ j * (c.toNat % 128) : Nat) : Int)) (hm : E ≤ most) :
    triple (Nm.first l most) = .tuple #[.int .i64 E, .int .i64 ((j : Int) + 1), .int .i64 0] := by
  rw [Nm.first_ok (dec_here hD hC h hn) (by rw [← hE]; omega), ← hE]; rfl
end

set_option maxHeartbeats 3200000 in
set_option maxRecDepth 100000 in
theorem number_any (B b : Nat) (v : Value) (l : List UInt8) (p : Nat) (e most : Int) (w : World) (h : IsRR B b v l (p : Int) e w) (hp : p ≤ l.length) (hs : l.length ≤ 1099511627776) :
    Calls Try.prog 62 #[.pointer (some ⟨b, 0, none⟩), .int .i64 most] w fun r w' => r = .returned (triple (Nm.first (l.drop p) most)) ∧ ∃ n, w' = w.drewN n := by
  obtain ⟨ra, rc, hv, hrc⟩ := h.form
  have H := aside h
  have HV := aside hv
  have hp0 : (0 : Int) ≤ (p : Int) := by omega
  have hp1 : (p : Int) ≤ (l.length : Int) := by omega
  have hl' : (l.length : Int) ≤ 1099511627776 := by omega
  clear h hv
  go_enter Try.func62, Try.ntmps62
  go_wp2
  go_loopw [7, 8, 9] (fun n unit k wr => NumberRel (l.drop p) w n unit k wr) (fun _ _ k _ => 9 - (intOf k).toNat)
  case atStart => exact ⟨0, 0, 1, 0, rfl, rfl, rfl, rfl, by omega, by omega, by simp, by rw [Nm.cmb_zero]; rfl, rfl⟩
  case round =>
    obtain ⟨j, acc, U, m, rfl, rfl, rfl, hU, hj8, hjl, hacc, hdec, rfl⟩ := hrel
    have hjl' : j ≤ l.length - p := by simpa using hjl
    have hj : (j : Int) ≤ 8 := by omega
    have HD := aside hdec
    have HA := aside hacc
    have HU := aside hU
    have hc1 := H.out.c1
    by_cases hend : p + j = l.length
    · have HE : Hid (triple (Nm.first (l.drop p) most) = .tuple #[.int .i64 0, .int .i64 0, .int .i64 10]) := way_short HD.out (by rw [List.drop_drop]; exact List.drop_of_length_le (by omega))
      have hge : (l.length : Int) ≤ (p : Int) + (j : Int) := by omega
      have hc0 := H.out.c0
      rw [HV.out] at hc0
      clear hdec hacc hU hend hjl hjl' hj8
      go_wp2_with fail
      go_quiet (fail)
      go_wp2
      go_ret3
      exact ⟨by rw [HE.out]; rfl, m + nq, by rw [World.drewN_drewN]⟩
    · have hlt : p + j < l.length := by omega
      have hlt' : (p : Int) + (j : Int) < (l.length : Int) := by omega
      obtain ⟨g, rc', hv', hcell⟩ := H.out.byte (p + j) hlt
      have hc0 := H.out.c0
      rw [hv'] at hc0
      have hdr : (l.drop p).drop j = l[p + j] :: (l.drop p).drop (j + 1) := by
        rw [List.drop_drop, List.drop_drop, ← Nat.add_assoc, List.drop_eq_getElem_cons hlt]
      obtain ⟨c, hc⟩ : ∃ c, c = l[p + j] := ⟨_, rfl⟩
      rw [← hc] at hcell hdr
      have HC := aside hdr
      have hb := c.toNat_lt
      have hb' : (c.toNat : Int) < 256 := by omega
      have hjl2 : Hid ((j : Int) < ((l.drop p).length : Int)) := by show _ < _; rw [List.length_drop]; omega
      clear hdec hacc hU hend hjl hjl' hj8 hc hdr hb hv' hlt
      have HE : Hid (wrap64 ((acc : Int) + wrap64 ((c.toNat : Int) % 128 * (U : Int))) = ((acc + 128 ^ j * (c.toNat % 128) : Nat) : Int)) := sum_eqU acc j U c HU.out hj HA.out
      by_cases h128 : (c.toNat : Int) < 128
      · have h127 : ¬ (127 : Int) < (c.toNat : Int) := by omega
        by_cases hz : (c.toNat : Int) = 0
        · have bz : ((c.toNat : Int) == 0) = true := by rw [beq_iff_eq]; exact hz
          have HZ := aside hz
          by_cases hj0 : (0 : Int) < (j : Int)
          · have HW : Hid (triple (Nm.first (l.drop p) most) = .tuple #[.int .i64 0, .int .i64 0, .int .i64 11]) := way_zero HD.out HC.out h128 (by omega) bz
            clear hz
            by_cases j8 : (j : Int) = 8
            · have b8 : ((j : Int) == 8) = true := by rw [beq_iff_eq]; exact j8
              clear j8
              go_wp2_with fail
              go_quiet (fail)
              go_wp2_with fail
              go_quiet (fail)
              go_wp2
              go_ret3
              exact ⟨by rw [HW.out]; rfl, _, rfl⟩
            · have b8 : ((j : Int) == 8) = false := by rw [beq_eq_false_iff_ne]; exact j8
              clear j8
              go_wp2_with fail
              go_quiet (fail)
              go_wp2_with fail
              go_quiet (fail)
              go_wp2
              go_ret3
              exact ⟨by rw [HW.out]; rfl, _, rfl⟩
          · have b8 : ((j : Int) == 8) = false := by rw [beq_eq_false_iff_ne]; omega
            have HN : Hid (¬ (0 < j ∧ c.toNat = 0)) := fun x => by omega
            clear hz
            go_wp2_with fail
            go_quiet (fail)
            go_wp2_with fail
            go_quiet (fail)
            go_wp2
            · have H3 := wayE_big (most := most) HD.out HC.out h128 HN.out HE.out (by assumption)
              go_ret3
              exact ⟨by rw [H3]; rfl, _, rfl⟩
            · have H3 := wayE_ok (most := most) HD.out HC.out h128 HN.out HE.out (by assumption)
              go_ret3
              exact ⟨by rw [H3]; rfl, _, rfl⟩
        · have bz : ((c.toNat : Int) == 0) = false := by rw [beq_eq_false_iff_ne]; exact hz
          have HN : Hid (¬ (0 < j ∧ c.toNat = 0)) := fun x => by omega
          clear hz
          by_cases j8 : (j : Int) = 8
          · have b8 : ((j : Int) == 8) = true := by rw [beq_iff_eq]; exact j8
            clear j8
            go_wp2_with fail
            go_quiet (fail)
            go_wp2_with fail
            go_quiet (fail)
            go_wp2
            · have H3 := wayE_big (most := most) HD.out HC.out h128 HN.out HE.out (by assumption)
              go_ret3
              exact ⟨by rw [H3]; rfl, _, rfl⟩
            · have H3 := wayE_ok (most := most) HD.out HC.out h128 HN.out HE.out (by assumption)
              go_ret3
              exact ⟨by rw [H3]; rfl, _, rfl⟩
          · have b8 : ((j : Int) == 8) = false := by rw [beq_eq_false_iff_ne]; exact j8
            clear j8
            go_wp2_with fail
            go_quiet (fail)
            go_wp2_with fail
            go_quiet (fail)
            go_wp2
            · have H3 := wayE_big (most := most) HD.out HC.out h128 HN.out HE.out (by assumption)
              go_ret3
              exact ⟨by rw [H3]; rfl, _, rfl⟩
            · have H3 := wayE_ok (most := most) HD.out HC.out h128 HN.out HE.out (by assumption)
              go_ret3
              exact ⟨by rw [H3]; rfl, _, rfl⟩
      · have h127 : (127 : Int) < (c.toNat : Int) := by omega
        by_cases j8 : (j : Int) = 8
        · have b8 : ((j : Int) == 8) = true := by rw [beq_iff_eq]; exact j8
          have HW : Hid (triple (Nm.first (l.drop p) most) = .tuple #[.int .i64 0, .int .i64 0, .int .i64 11]) := way_long HD.out HC.out hj (by omega) (by omega)
          clear j8
          go_wp2_with fail
          go_quiet (fail)
          go_wp2_with fail
          go_quiet (fail)
          go_wp2
          go_ret3
          exact ⟨by rw [HW.out]; rfl, _, rfl⟩
        · have b8 : ((j : Int) == 8) = false := by rw [beq_eq_false_iff_ne]; exact j8
          have hj7 : (j : Int) < 8 := by omega
          have HUN : Hid (wrap64 ((U : Int) * 128) = ((128 ^ (j + 1) : Nat) : Int)) := unit_eq j U HU.out hj7
          clear j8
          go_wp2_with fail
          go_quiet (fail)
          go_wp2_with fail
          go_quiet (fail)
          go_wp2
          go_roundw
          case rel =>
            refine ⟨j + 1, acc + 128 ^ j * (c.toNat % 128), 128 ^ (j + 1), _, by rw [HE.out], by rw [HUN.out], by go_num, rfl, by omega, ?_, pow_lt acc j c.toNat HA.out, ?_, rfl⟩
            · have := hjl2.out; omega
            · rw [HD.out, HC.out, show 8 - j = (8 - (j + 1)) + 1 from by omega, Nm.cmb_step acc j _ c _ (by omega)]
              rw [Nat.mul_comm (c.toNat - 128), show c.toNat - 128 = c.toNat % 128 from by omega]
          case measure => simp [intOf]; omega

end Go.Proofs.Ytnjbglnkhgholaa

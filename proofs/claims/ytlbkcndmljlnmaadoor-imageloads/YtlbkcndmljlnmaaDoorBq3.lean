/-
  number and Num of the document's own reader: as Nm.first says; they read, and turn nothing but the reader.
  Num of the code's reader: broken, it answers 0 and stays; else it answers what the bytes at its place say (Nm.first), moves on by as many, and keeps the error.
  Text of the code's reader: broken, it answers nothing and stays; else what the bytes at its place say (textOf).
  Word of the code's reader: broken or with too few bytes left, it answers 0 and stays; else the number of the eight bytes at its place, the highest first.
  Num, Text, Word and Flag of the document's own reader, by contracts.
  Word and Flag of the document's own reader, by contracts.
  Flag of the code's reader: broken, it answers false and stays; else what the byte at its place says.
-/
import Derived.Test.YtlbkcndmljlnmaaDoorBq2
import Derived.Laws.BitsAllLaws
namespace Go.Proofs.YtlbkcndmljlnmaaDoor
open Go.RowKit
set_option linter.unusedVariables false
def NumberRel (L : List UInt8) (w : World) (n unit k : Value) (wr : World) : Prop :=
  ∃ j acc U m : Nat, n = .int .i64 (acc : Int) ∧ unit = .int .i64 (U : Int) ∧ k = .int .i64 (j : Int) ∧ U = 128 ^ j ∧ j ≤ 8 ∧ j ≤ L.length ∧ acc < 128 ^ j ∧ Nm.dec 8 L = Nm.cmb acc j (Nm.dec (8 - j) (L.drop j)) ∧ wr = w.drewN m
theorem sum_eqU (acc j U : Nat) (c : UInt8) (hU : U = 128 ^ j) (hj : (j : Int) ≤ 8) (hacc : acc < 128 ^ j) : wrap64 ((acc : Int) + wrap64 ((c.toNat : Int) % 128 * (U : Int))) = ((acc + 128 ^ j * (c.toNat % 128) : Nat) : Int) := by
  subst hU
  have hj' : j = 0 ∨ j = 1 ∨ j = 2 ∨ j = 3 ∨ j = 4 ∨ j = 5 ∨ j = 6 ∨ j = 7 ∨ j = 8 := by omega
  have hc := c.toNat_lt
  rcases hj' with rfl | rfl | rfl | rfl | rfl | rfl | rfl | rfl | rfl
  all_goals
    simp only [Nat.reducePow, Int.cast_ofNat_Int] at hacc ⊢
    rw [IntWalk.wrap64_in ((c.toNat : Int) % 128 * _) ⟨by omega, by omega⟩, IntWalk.wrap64_in _ ⟨by omega, by omega⟩]
    omega
theorem unit_eq (j U : Nat) (hU : U = 128 ^ j) (hj : (j : Int) < 8) : wrap64 ((U : Int) * 128) = ((128 ^ (j + 1) : Nat) : Int) := by
  subst hU
  have hj' : j = 0 ∨ j = 1 ∨ j = 2 ∨ j = 3 ∨ j = 4 ∨ j = 5 ∨ j = 6 ∨ j = 7 := by omega
  rcases hj' with rfl | rfl | rfl | rfl | rfl | rfl | rfl | rfl <;> rw [IntWalk.wrap64_in _ ⟨by omega, by omega⟩] <;> omega
section
variable {l : List UInt8} {acc j : Nat} {c : UInt8} {r : List UInt8} {most E : Int}
theorem wayE_big (hD : Nm.dec 8 l = Nm.cmb acc j (Nm.dec (8 - j) (l.drop j))) (hC : l.drop j = c :: r) (h : (c.toNat : Int) < 128) (hn : ¬ (0 < j ∧ c.toNat = 0)) (hE : E = ((acc + 128 ^ j * (c.toNat % 128) : Nat) : Int)) (hm : most < E) :
    triple (Nm.first l most) = .tuple #[.int .i64 0, .int .i64 0, .int .i64 12] := by
  rw [Nm.first_big (dec_here hD hC h hn) (by rw [← hE]; exact hm)]; rfl
theorem wayE_ok (hD : Nm.dec 8 l = Nm.cmb acc j (Nm.dec (8 - j) (l.drop j))) (hC : l.drop j = c :: r) (h : (c.toNat : Int) < 128) (hn : ¬ (0 < j ∧ c.toNat = 0)) (hE : E = ((acc + 128 ^ j * (c.toNat % 128) : Nat) : Int)) (hm : E ≤ most) :
    triple (Nm.first l most) = .tuple #[.int .i64 E, .int .i64 ((j : Int) + 1), .int .i64 0] := by
  rw [Nm.first_ok (dec_here hD hC h hn) (by rw [← hE]; omega), ← hE]; rfl
end
set_option maxHeartbeats 3200000 in
set_option maxRecDepth 100000 in
theorem number_any (B b : Nat) (v : Value) (l : List UInt8) (p : Nat) (e most : Int) (w : World) (h : IsRR B b v l (p : Int) e w) (hp : p ≤ l.length) (hs : l.length ≤ 140737488355328) :
    Calls Tryd.prog 74 #[.pointer (some ⟨b, 0, none⟩), .int .i64 most] w fun r w' => r = .returned (triple (Nm.first (l.drop p) most)) ∧ ∃ n, w' = w.drewN n := by
  obtain ⟨ra, rc, hv, hrc⟩ := h.form
  have H := aside h
  have HV := aside hv
  have hp0 : (0 : Int) ≤ (p : Int) := by omega
  have hp1 : (p : Int) ≤ (l.length : Int) := by omega
  have hl' : (l.length : Int) ≤ 140737488355328 := by omega
  clear h hv
  go_enter Tryd.func74, Tryd.ntmps74
  go_wp2
  go_loopw [7, 8, 9] (fun n unit k wr => NumberRel (l.drop p) w n unit k wr) (fun _ _ k _ => 9 - (intOf k).toNat)
  case atStart => exact ⟨0, 0, 1, 0, rfl, rfl, rfl, rfl, by omega, by omega, by simp, by rw [Nm.cmb_zero]; rfl, rfl⟩
  case round =>
    obtain ⟨j, acc, U, m, rfl, rfl, rfl, hU, hj8, hjl, hacc, hdec, rfl⟩ := hrel
    have hjl' : j ≤ l.length - p := by simpa using hjl
    have hj : (j : Int) ≤ 8 := by omega
    have HD := aside hdec
    have HA := aside hacc
    have HU := aside hU
    have hc1 := H.out.c1
    by_cases hend : p + j = l.length
    · have HE : Hid (triple (Nm.first (l.drop p) most) = .tuple #[.int .i64 0, .int .i64 0, .int .i64 10]) := way_short HD.out (by rw [List.drop_drop]; exact List.drop_of_length_le (by omega))
      have hge : (l.length : Int) ≤ (p : Int) + (j : Int) := by omega
      have hc0 := H.out.c0
      rw [HV.out] at hc0
      clear hdec hacc hU hend hjl hjl' hj8
      go_wp2_with fail
      go_quiet (fail)
      go_wp2
      go_ret3
      exact ⟨by rw [HE.out]; rfl, m + nq, by rw [World.drewN_drewN]⟩
    · have hlt : p + j < l.length := by omega
      have hlt' : (p : Int) + (j : Int) < (l.length : Int) := by omega
      obtain ⟨g, rc', hv', hcell⟩ := H.out.byte (p + j) hlt
      have hc0 := H.out.c0
      rw [hv'] at hc0
      have hdr : (l.drop p).drop j = l[p + j] :: (l.drop p).drop (j + 1) := by
        rw [List.drop_drop, List.drop_drop, ← Nat.add_assoc, List.drop_eq_getElem_cons hlt]
      obtain ⟨c, hc⟩ : ∃ c, c = l[p + j] := ⟨_, rfl⟩
      rw [← hc] at hcell hdr
      have HC := aside hdr
      have hb := c.toNat_lt
      have hb' : (c.toNat : Int) < 256 := by omega
      have hjl2 : Hid ((j : Int) < ((l.drop p).length : Int)) := by show _ < _; rw [List.length_drop]; omega
      clear hdec hacc hU hend hjl hjl' hj8 hc hdr hb hv' hlt
      have HE : Hid (wrap64 ((acc : Int) + wrap64 ((c.toNat : Int) % 128 * (U : Int))) = ((acc + 128 ^ j * (c.toNat % 128) : Nat) : Int)) := sum_eqU acc j U c HU.out hj HA.out
      by_cases h128 : (c.toNat : Int) < 128
      · have h127 : ¬ (127 : Int) < (c.toNat : Int) := by omega
        by_cases hz : (c.toNat : Int) = 0
        · have bz : ((c.toNat : Int) == 0) = true := by rw [beq_iff_eq]; exact hz
          have HZ := aside hz
          by_cases hj0 : (0 : Int) < (j : Int)
          · have HW : Hid (triple (Nm.first (l.drop p) most) = .tuple #[.int .i64 0, .int .i64 0, .int .i64 11]) := way_zero HD.out HC.out h128 (by omega) bz
            clear hz
            by_cases j8 : (j : Int) = 8
            · have b8 : ((j : Int) == 8) = true := by rw [beq_iff_eq]; exact j8
              clear j8
              go_wp2_with fail
              go_quiet (fail)
              go_wp2_with fail
              go_quiet (fail)
              go_wp2
              go_ret3
              exact ⟨by rw [HW.out]; rfl, _, rfl⟩
            · have b8 : ((j : Int) == 8) = false := by rw [beq_eq_false_iff_ne]; exact j8
              clear j8
              go_wp2_with fail
              go_quiet (fail)
              go_wp2_with fail
              go_quiet (fail)
              go_wp2
              go_ret3
              exact ⟨by rw [HW.out]; rfl, _, rfl⟩
          · have b8 : ((j : Int) == 8) = false := by rw [beq_eq_false_iff_ne]; omega
            have HN : Hid (¬ (0 < j ∧ c.toNat = 0)) := fun x => by omega
            clear hz
            go_wp2_with fail
            go_quiet (fail)
            go_wp2_with fail
            go_quiet (fail)
            go_wp2
            · have H3 := wayE_big (most := most) HD.out HC.out h128 HN.out HE.out (by assumption)
              go_ret3
              exact ⟨by rw [H3]; rfl, _, rfl⟩
            · have H3 := wayE_ok (most := most) HD.out HC.out h128 HN.out HE.out (by assumption)
              go_ret3
              exact ⟨by rw [H3]; rfl, _, rfl⟩
        · have bz : ((c.toNat : Int) == 0) = false := by rw [beq_eq_false_iff_ne]; exact hz
          have HN : Hid (¬ (0 < j ∧ c.toNat = 0)) := fun x => by omega
          clear hz
          by_cases j8 : (j : Int) = 8
          · have b8 : ((j : Int) == 8) = true := by rw [beq_iff_eq]; exact j8
            clear j8
            go_wp2_with fail
            go_quiet (fail)
            go_wp2_with fail
            go_quiet (fail)
            go_wp2
            · have H3 := wayE_big (most := most) HD.out HC.out h128 HN.out HE.out (by assumption)
              go_ret3
              exact ⟨by rw [H3]; rfl, _, rfl⟩
            · have H3 := wayE_ok (most := most) HD.out HC.out h128 HN.out HE.out (by assumption)
              go_ret3
              exact ⟨by rw [H3]; rfl, _, rfl⟩
          · have b8 : ((j : Int) == 8) = false := by rw [beq_eq_false_iff_ne]; exact j8
            clear j8
            go_wp2_with fail
            go_quiet (fail)
            go_wp2_with fail
            go_quiet (fail)
            go_wp2
            · have H3 := wayE_big (most := most) HD.out HC.out h128 HN.out HE.out (by assumption)
              go_ret3
              exact ⟨by rw [H3]; rfl, _, rfl⟩
            · have H3 := wayE_ok (most := most) HD.out HC.out h128 HN.out HE.out (by assumption)
              go_ret3
              exact ⟨by rw [H3]; rfl, _, rfl⟩
      · have h127 : (127 : Int) < (c.toNat : Int) := by omega
        by_cases j8 : (j : Int) = 8
        · have b8 : ((j : Int) == 8) = true := by rw [beq_iff_eq]; exact j8
          have HW : Hid (triple (Nm.first (l.drop p) most) = .tuple #[.int .i64 0, .int .i64 0, .int .i64 11]) := way_long HD.out HC.out hj (by omega) (by omega)
          clear j8
          go_wp2_with fail
          go_quiet (fail)
          go_wp2_with fail
          go_quiet (fail)
          go_wp2
          go_ret3
          exact ⟨by rw [HW.out]; rfl, _, rfl⟩
        · have b8 : ((j : Int) == 8) = false := by rw [beq_eq_false_iff_ne]; exact j8
          have hj7 : (j : Int) < 8 := by omega
          have HUN : Hid (wrap64 ((U : Int) * 128) = ((128 ^ (j + 1) : Nat) : Int)) := unit_eq j U HU.out hj7
          clear j8
          go_wp2_with fail
          go_quiet (fail)
          go_wp2_with fail
          go_quiet (fail)
          go_wp2
          go_roundw
          case rel =>
            refine ⟨j + 1, acc + 128 ^ j * (c.toNat % 128), 128 ^ (j + 1), _, by rw [HE.out], by rw [HUN.out], by go_num, rfl, by omega, ?_, pow_lt acc j c.toNat HA.out, ?_, rfl⟩
            · have := hjl2.out; omega
            · rw [HD.out, HC.out, show 8 - j = (8 - (j + 1)) + 1 from by omega, Nm.cmb_step acc j _ c _ (by omega)]
              rw [Nat.mul_comm (c.toNat - 128), show c.toNat - 128 = c.toNat % 128 from by omega]
          case measure => simp [intOf]; omega
end Go.Proofs.YtlbkcndmljlnmaaDoor
namespace Go.Proofs.YtlbkcndmljlnmaaDoor
open Go.RowKit
set_option linter.unusedVariables false
theorem extract_drop (s : ByteArray) (p : Nat) (hp : p ≤ s.size) : (s.extract p s.size).data.toList = s.data.toList.drop p := by
  rw [ByteArray.data_extract]
  show (s.data.extract p s.data.size).toList = _
  rw [Array.toList_extract, List.extract_eq_take_drop, List.take_of_length_le (by simp)]
theorem extract_size (s : ByteArray) (p : Nat) : (s.extract p s.size).size = s.size - p := by simp
set_option maxHeartbeats 400000 in
theorem rnum_broken (b : Nat) (s : ByteArray) (p e most : Int) (w : World) (h : IsR b s p e w) (he : e ≠ 0) :
    Calls Tryd.prog 71 #[.pointer (some ⟨b, 0, none⟩), .int .i64 most] w fun r w' => r = .returned (.int .i64 0) ∧ w' = w := by
  have h2 := h.c2
  have hb : (e != 0) = true := by simp [he]
  go_enter Tryd.func71, Tryd.ntmps71
  go_wp2
  go_ret
  exact ⟨rfl, rfl⟩
/-- firstNum at a part of the text, its three answers named. -/
theorem firstNum_at (s : ByteArray) (p : Nat) (hp : p ≤ s.size) (most n k e : Int) (hF : Nm.first (s.data.toList.drop p) most = (n, k, e)) (w : World) (hs : s.size ≤ 1099511627776) :
    Calls Tryd.prog 95 #[.string (s.extract p s.size), .int .i64 most] w fun r w' => r = .returned (.tuple #[.int .i64 n, .int .i64 k, .int .i64 e]) ∧ w' = w := by
  have := firstNum_any (s.extract p s.size) most w (by rw [extract_size]; omega)
  rw [extract_drop s p hp, hF] at this
  exact this
set_option maxHeartbeats 1600000 in
set_option maxRecDepth 100000 in
theorem rnum_any (b : Nat) (s : ByteArray) (p : Nat) (most n k e : Int) (w : World) (h : IsR b s (p : Int) 0 w) (hp : p ≤ s.size) (hs : s.size ≤ 1099511627776) (hF : Nm.first (s.data.toList.drop p) most = (n, k, e)) :
    Calls Tryd.prog 71 #[.pointer (some ⟨b, 0, none⟩), .int .i64 most] w fun r w' => r = .returned (.int .i64 n) ∧ IsR b s ((p : Int) + k) e w' ∧ Keeps (fun x => x = b) w w' := by
  have hk : 0 ≤ k ∧ k ≤ 9 := by
    obtain ⟨n', k', e', hf, _, h9, _⟩ := Nm.first_form (s.data.toList.drop p) most
    rw [hF] at hf
    simp only [Prod.mk.injEq] at hf
    omega
  have C := aside (fun w => firstNum_at s p hp most n k e hF w hs)
  have H := aside h
  have h0 := h.c0
  have h1 := h.c1
  have h2 := h.c2
  have hp0 : (0 : Int) ≤ (p : Int) := by omega
  have hp1 : (p : Int) ≤ (s.size : Int) := by omega
  have hk0 := hk.1
  have hk9 := hk.2
  have hf1 := h.f1
  clear hF hk h
  go_enter Tryd.func71, Tryd.ntmps71
  go_wp2_with fail
  go_quiet ((go_at_call 95; exact Calls.quiet_of_same (C.out _)))
  go_wp2_with fail
  refine (rfail_any b s ((p : Int) + k) 0 e _ ?hh).mono ?_
  case hh => exact (H.out.drewN _).set1 ((p : Int) + k)
  rintro r w1 ⟨rfl, hr, hkp⟩
  go_wp2
  go_ret
  refine ⟨rfl, by simpa [failOf] using hr, ?_⟩
  exact (((Keeps.refl (fun x => x = b) w).drewN _).setCell (p := ⟨b, 1, none⟩) (fun _ => rfl) _).trans hkp
end Go.Proofs.YtlbkcndmljlnmaaDoor
namespace Go.Proofs.YtlbkcndmljlnmaaDoor
open Go.RowKit
set_option linter.unusedVariables false
/-- The text that bytes begin with: it, how many bytes it takes with its number, what is wrong. -/
def textOf (l : List UInt8) (most : Int) : List UInt8 × Int × Int :=
  if (Nm.first l most).2.2 ≠ 0 then ([], 0, (Nm.first l most).2.2)
  else if (l.length : Int) - (Nm.first l most).2.1 < (Nm.first l most).1 then ([], 0, 10)
  else ((l.drop (Nm.first l most).2.1.toNat).take (Nm.first l most).1.toNat, (Nm.first l most).2.1 + (Nm.first l most).1, 0)
theorem extract_part (s : ByteArray) (a n : Nat) (h : a + n ≤ s.size) : s.extract a (a + n) = ⟨((s.data.toList.drop a).take n).toArray⟩ := by
  apply ByteArray.ext
  rw [ByteArray.data_extract]
  apply Array.ext'
  rw [Array.toList_extract, List.extract_eq_take_drop]
  simp
set_option maxHeartbeats 1600000 in
set_option maxRecDepth 100000 in
theorem rtext_broken (b : Nat) (s : ByteArray) (p : Nat) (e most : Int) (w : World) (h : IsR b s (p : Int) e w) (he : e ≠ 0) (hp : p ≤ s.size) (hs : s.size ≤ 1099511627776) :
    Calls Tryd.prog 70 #[.pointer (some ⟨b, 0, none⟩), .int .i64 most] w fun r w' => r = .returned (.string ⟨#[]⟩) ∧ IsR b s (p : Int) e w' ∧ Keeps (fun x => x = b) w w' := by
  have h0 := h.c0
  have h1 := h.c1
  have hf1 := h.f1
  have hp0 : (0 : Int) ≤ (p : Int) := by omega
  have hp1 : (p : Int) ≤ (s.size : Int) := by omega
  have H := aside h
  clear h
  go_enter Tryd.func70, Tryd.ntmps70
  go_wp2_with fail
  refine (rnum_broken b s (p : Int) e most _ H.out he).mono ?_
  rintro r w1 ⟨rfl, rfl⟩
  go_wp2_with fail
  refine (rleft_any b s (p : Int) e _ H.out hp0 hp1 hs).mono ?_
  rintro r w2 ⟨rfl, nq, rfl⟩
  go_wp2_with fail
  go_quiet (fail)
  go_wp2
  go_ret
  exact ⟨rfl, H.out.set1 (p : Int), ((Keeps.refl (fun x => x = b) w1).setCell (p := ⟨b, 1, none⟩) (fun _ => rfl) _).trans ⟨rfl, rfl, rfl, Nat.le_refl _, fun _ _ _ => rfl⟩⟩
/-- What bytes begin with is no number, or one that is too big. -/
theorem textOf_bad {l : List UInt8} {most e : Int} (h : Nm.first l most = (0, 0, e)) (he : e ≠ 0) : textOf l most = ([], 0, e) := by
  unfold textOf; rw [h]; simp [he]
theorem textOf_short {l : List UInt8} {most n k : Int} (h : Nm.first l most = (n, k, 0)) (hn : (l.length : Int) - k < n) : textOf l most = ([], 0, 10) := by
  unfold textOf; rw [h]; simp [hn]
theorem textOf_ok {l : List UInt8} {most n k : Int} (h : Nm.first l most = (n, k, 0)) (hn : ¬ (l.length : Int) - k < n) : textOf l most = ((l.drop k.toNat).take n.toNat, k + n, 0) := by
  unfold textOf; rw [h]; simp only [ne_eq, not_true_eq_false, if_false]; rw [if_neg hn]
set_option maxHeartbeats 1600000 in
set_option maxRecDepth 100000 in
theorem rtext_bad (b : Nat) (s : ByteArray) (p : Nat) (most e : Int) (w : World) (h : IsR b s (p : Int) 0 w) (hp : p ≤ s.size) (hs : s.size ≤ 1099511627776) (hF : Nm.first (s.data.toList.drop p) most = (0, 0, e)) :
    Calls Tryd.prog 70 #[.pointer (some ⟨b, 0, none⟩), .int .i64 most] w fun r w' => r = .returned (.string ⟨#[]⟩) ∧ IsR b s (p : Int) e w' ∧ Keeps (fun x => x = b) w w' := by
  have h1 := h.c1
  have hp0 : (0 : Int) ≤ (p : Int) := by omega
  have hp1 : (p : Int) ≤ (s.size : Int) := by omega
  have H := aside h
  have HF := aside hF
  clear h hF
  go_enter Tryd.func70, Tryd.ntmps70
  go_wp2_with fail
  refine (rnum_any b s p most 0 0 e _ H.out hp hs HF.out).mono ?_
  rintro r w1 ⟨rfl, hr, hk⟩
  rw [show (p : Int) + 0 = (p : Int) from by omega] at hr
  have h10 := hr.c0
  have h11 := hr.c1
  have hf11 := hr.f1
  have HR := aside hr
  clear hr
  go_wp2_with fail
  refine (rleft_any b s (p : Int) e _ HR.out hp0 hp1 hs).mono ?_
  rintro r w2 ⟨rfl, nq, rfl⟩
  go_wp2_with fail
  go_quiet (fail)
  go_wp2
  go_ret
  exact ⟨rfl, HR.out.set1 (p : Int), hk.trans (((Keeps.refl (fun x => x = b) w1).setCell (p := ⟨b, 1, none⟩) (fun _ => rfl) _).trans ⟨rfl, rfl, rfl, Nat.le_refl _, fun _ _ _ => rfl⟩)⟩
set_option maxHeartbeats 1600000 in
set_option maxRecDepth 100000 in
theorem rtext_short (b : Nat) (s : ByteArray) (p : Nat) (most : Int) (n k : Nat) (w : World) (h : IsR b s (p : Int) 0 w) (hp : p ≤ s.size) (hs : s.size ≤ 1099511627776) (hF : Nm.first (s.data.toList.drop p) most = ((n : Int), (k : Int), 0)) (hpk : p + k ≤ s.size) (hn : (s.size : Int) - ((p : Int) + (k : Int)) < (n : Int)) :
    Calls Tryd.prog 70 #[.pointer (some ⟨b, 0, none⟩), .int .i64 most] w fun r w' => r = .returned (.string ⟨#[]⟩) ∧ IsR b s (p : Int) 10 w' ∧ Keeps (fun x => x = b) w w' := by
  have h1 := h.c1
  have hp0 : (0 : Int) ≤ (p : Int) + (k : Int) := by omega
  have hp1 : (p : Int) + (k : Int) ≤ (s.size : Int) := by omega
  have H := aside h
  have HF := aside hF
  clear h hF
  go_enter Tryd.func70, Tryd.ntmps70
  go_wp2_with fail
  refine (rnum_any b s p most n k 0 _ H.out hp hs HF.out).mono ?_
  rintro r w1 ⟨rfl, hr, hk⟩
  have h11 := hr.c1
  have hf11 := hr.f1
  have HR := aside hr
  clear hr
  go_wp2_with fail
  refine (rleft_any b s ((p : Int) + (k : Int)) 0 _ HR.out hp0 hp1 hs).mono ?_
  rintro r w2 ⟨rfl, nq, rfl⟩
  go_wp2_with fail
  refine (rfail_any b s (p : Int) 0 10 _ ?hh).mono ?_
  case hh => exact HR.out.set1 (p : Int)
  rintro r w3 ⟨rfl, hr3, hk3⟩
  go_wp2
  go_ret
  refine ⟨rfl, by simpa [failOf] using hr3, hk.trans (Keeps.trans ?_ hk3)⟩
  exact (((Keeps.refl (fun x => x = b) w1).drewN _).setCell (p := ⟨b, 1, none⟩) (fun _ => rfl) _)
set_option maxHeartbeats 1600000 in
set_option maxRecDepth 100000 in
theorem rtext_ok (b : Nat) (s : ByteArray) (p : Nat) (most : Int) (n k : Nat) (w : World) (h : IsR b s (p : Int) 0 w) (hp : p ≤ s.size) (hs : s.size ≤ 1099511627776) (hF : Nm.first (s.data.toList.drop p) most = ((n : Int), (k : Int), 0)) (hpk : p + k + n ≤ s.size) :
    Calls Tryd.prog 70 #[.pointer (some ⟨b, 0, none⟩), .int .i64 most] w fun r w' => r = .returned (.string ⟨((s.data.toList.drop (p + k)).take n).toArray⟩) ∧ IsR b s ((p : Int) + (k : Int) + (n : Int)) 0 w' ∧ Keeps (fun x => x = b) w w' := by
  have h1 := h.c1
  have hp0 : (0 : Int) ≤ (p : Int) + (k : Int) := by omega
  have hp1 : (p : Int) + (k : Int) ≤ (s.size : Int) := by omega
  have hp2 : (p : Int) + (k : Int) + (n : Int) ≤ (s.size : Int) := by omega
  have hn : ¬ (s.size : Int) - ((p : Int) + (k : Int)) < (n : Int) := by omega
  have HX := aside (extract_part s (p + k) n (by omega))
  have H := aside h
  have HF := aside hF
  clear h hF
  go_enter Tryd.func70, Tryd.ntmps70
  go_wp2_with fail
  refine (rnum_any b s p most n k 0 _ H.out hp hs HF.out).mono ?_
  rintro r w1 ⟨rfl, hr, hk⟩
  have h10 := hr.c0
  have h11 := hr.c1
  have hf11 := hr.f1
  have HR := aside hr
  clear hr
  go_wp2_with fail
  refine (rleft_any b s ((p : Int) + (k : Int)) 0 _ HR.out hp0 hp1 hs).mono ?_
  rintro r w2 ⟨rfl, nq, rfl⟩
  go_wp2_with fail
  go_quiet (fail)
  go_wp2
  go_ret
  refine ⟨?_, HR.out.set1 _, hk.trans (((Keeps.refl (fun x => x = b) w1).setCell (p := ⟨b, 1, none⟩) (fun _ => rfl) _).trans ⟨rfl, rfl, rfl, Nat.le_refl _, fun _ _ _ => rfl⟩)⟩
  show Ending.returned (Value.string (s.extract (p + k) (p + k + n))) = _
  rw [HX.out]
end Go.Proofs.YtlbkcndmljlnmaaDoor
namespace Go.Proofs.YtlbkcndmljlnmaaDoor
open Go.RowKit
set_option linter.unusedVariables false
end Go.Proofs.YtlbkcndmljlnmaaDoor
namespace Go.Proofs.YtlbkcndmljlnmaaDoor
open Go.RowKit
set_option linter.unusedVariables false
set_option maxHeartbeats 400000 in
theorem rrnum_broken (B b : Nat) (v : Value) (l : List UInt8) (p e most : Int) (w : World) (h : IsRR B b v l p e w) (he : e ≠ 0) :
    Calls Tryd.prog 46 #[.pointer (some ⟨b, 0, none⟩), .int .i64 most] w fun r w' => r = .returned (.int .i64 0) ∧ w' = w := by
  have h2 := h.c2
  have hb : (e != 0) = true := by simp [he]
  go_enter Tryd.func46, Tryd.ntmps46
  go_wp2
  go_ret
  exact ⟨rfl, rfl⟩
/-- number, its three answers named. -/
theorem number_at (B b : Nat) (v : Value) (l : List UInt8) (p : Nat) (e0 most n k e : Int) (w : World) (h : IsRR B b v l (p : Int) e0 w) (hp : p ≤ l.length) (hs : l.length ≤ 140737488355328) (hF : Nm.first (l.drop p) most = (n, k, e)) :
    Calls Tryd.prog 74 #[.pointer (some ⟨b, 0, none⟩), .int .i64 most] w fun r w' => r = .returned (.tuple #[.int .i64 n, .int .i64 k, .int .i64 e]) ∧ ∃ q, w' = w.drewN q := by
  have := number_any B b v l p e0 most w h hp hs
  rw [hF] at this
  exact this
theorem first_small {l : List UInt8} {most n k e : Int} (hF : Nm.first l most = (n, k, e)) : 0 ≤ k ∧ k ≤ 9 ∧ k ≤ (l.length : Int) ∧ 0 ≤ n ∧ n < 9223372036854775808 ∧ (e ≠ 0 → n = 0 ∧ k = 0) := by
  obtain ⟨n', k', e', hf, h1, h9, _, _, h2, h3, _⟩ := Nm.first_form l most
  rw [hF] at hf
  simp only [Prod.mk.injEq] at hf
  obtain ⟨rfl, rfl, rfl⟩ := hf
  refine ⟨by omega, by omega, by omega, by omega, h3, fun he => ?_⟩
  have := h2 he
  omega
set_option maxHeartbeats 1600000 in
set_option maxRecDepth 100000 in
theorem rrnum_any (B b : Nat) (v : Value) (l : List UInt8) (p : Nat) (most n k e : Int) (w : World) (h : IsRR B b v l (p : Int) 0 w) (hp : p ≤ l.length) (hs : l.length ≤ 140737488355328) (hF : Nm.first (l.drop p) most = (n, k, e)) :
    Calls Tryd.prog 46 #[.pointer (some ⟨b, 0, none⟩), .int .i64 most] w fun r w' => r = .returned (.int .i64 n) ∧ IsRR B b v l ((p : Int) + k) e w' ∧ Keeps (fun x => x = b) w w' := by
  have hk := first_small hF
  have hk0 := hk.1
  have hk9 := hk.2.1
  have hl' : (l.length : Int) ≤ 140737488355328 := by omega
  have hp1 : (p : Int) ≤ (l.length : Int) := by omega
  have HF := aside hF
  have H := aside h
  have h1 := h.c1
  have h2 := h.c2
  have hf1 := h.f1
  have hf2 := h.f2
  clear hF hk h
  go_enter Tryd.func46, Tryd.ntmps46
  go_wp2_with fail
  refine (number_at B b v l p 0 most n k e _ H.out hp hs HF.out).mono ?_
  rintro r w1 ⟨rfl, q, rfl⟩
  go_wp2
  go_ret
  exact ⟨rfl, ((H.out.drewN q).set2 e).set1 _, (((Keeps.refl (fun x => x = b) w).drewN q).setCell (p := ⟨b, 2, none⟩) (fun _ => rfl) _).setCell (p := ⟨b, 1, none⟩) (fun _ => rfl) _⟩
set_option maxHeartbeats 400000 in
theorem rrtext_broken (B b : Nat) (v : Value) (l : List UInt8) (p e most : Int) (w : World) (h : IsRR B b v l p e w) (he : e ≠ 0) :
    Calls Tryd.prog 45 #[.pointer (some ⟨b, 0, none⟩), .int .i64 most] w fun r w' => r = .returned (.string ⟨#[]⟩) ∧ w' = w := by
  have h2 := h.c2
  have hb : (e != 0) = true := by simp [he]
  go_enter Tryd.func45, Tryd.ntmps45
  go_wp2
  go_ret
  exact ⟨rfl, rfl⟩
set_option maxHeartbeats 1600000 in
set_option maxRecDepth 100000 in
theorem rrtext_bad (B b : Nat) (v : Value) (l : List UInt8) (p : Nat) (most e : Int) (w : World) (h : IsRR B b v l (p : Int) 0 w) (hp : p ≤ l.length) (hs : l.length ≤ 140737488355328) (hF : Nm.first (l.drop p) most = (0, 0, e)) (he : e ≠ 0) :
    Calls Tryd.prog 45 #[.pointer (some ⟨b, 0, none⟩), .int .i64 most] w fun r w' => r = .returned (.string ⟨#[]⟩) ∧ IsRR B b v l (p : Int) e w' ∧ Keeps (fun x => x = b) w w' := by
  have HF := aside hF
  have H := aside h
  have h2 := h.c2
  have hf2 := h.f2
  have b1 : (e == 0) = false := by rw [beq_eq_false_iff_ne]; exact he
  have b2 : (e != 0) = true := by rw [bne_iff_ne]; exact he
  clear hF h he
  go_enter Tryd.func45, Tryd.ntmps45
  go_wp2_with fail
  refine (number_at B b v l p 0 most 0 0 e _ H.out hp hs HF.out).mono ?_
  rintro r w1 ⟨rfl, q, rfl⟩
  go_wp2_with fail
  go_quiet (fail)
  go_wp2
  go_ret
  exact ⟨rfl, (H.out.drewN q).set2 e, (((Keeps.refl (fun x => x = b) w).drewN _).setCell (p := ⟨b, 2, none⟩) (fun _ => rfl) _)⟩
set_option maxHeartbeats 1600000 in
set_option maxRecDepth 100000 in
theorem rrtext_short (B b : Nat) (v : Value) (l : List UInt8) (p : Nat) (most : Int) (n k : Nat) (w : World) (h : IsRR B b v l (p : Int) 0 w) (hp : p ≤ l.length) (hs : l.length ≤ 140737488355328) (hF : Nm.first (l.drop p) most = ((n : Int), (k : Int), 0)) (hpk : p + k ≤ l.length) (hn : (l.length : Int) - ((p : Int) + (k : Int)) < (n : Int)) :
    Calls Tryd.prog 45 #[.pointer (some ⟨b, 0, none⟩), .int .i64 most] w fun r w' => r = .returned (.string ⟨#[]⟩) ∧ IsRR B b v l (p : Int) 10 w' ∧ Keeps (fun x => x = b) w w' := by
  obtain ⟨ra, rc, rfl, hrc⟩ := h.form
  have HF := aside hF
  have H := aside h
  have h0 := h.c0
  have h1 := h.c1
  have h2 := h.c2
  have hf2 := h.f2
  have hl' : (l.length : Int) ≤ 140737488355328 := by omega
  have hp1 : (p : Int) + (k : Int) ≤ (l.length : Int) := by omega
  have hn' : (l.length : Int) - (p : Int) - (k : Int) < (n : Int) := by omega
  clear hF h hn
  go_enter Tryd.func45, Tryd.ntmps45
  go_wp2_with fail
  refine (number_at B b _ l p 0 most n k 0 _ H.out hp hs HF.out).mono ?_
  rintro r w1 ⟨rfl, q, rfl⟩
  go_wp2_with fail
  go_quiet (fail)
  go_wp2
  go_ret
  exact ⟨rfl, (H.out.drewN q).set2 10, (((Keeps.refl (fun x => x = b) w).drewN _).setCell (p := ⟨b, 2, none⟩) (fun _ => rfl) _)⟩
theorem slice_run (a : Option Addr) (len rc : Nat) (l h : Int) (h0 : 0 ≤ l) (h1 : l ≤ h) (h2 : h ≤ rc) (w : World) :
    (Instr.slice 31 (.slice a len rc) (some (.int .i64 l)) (some (.int .i64 h)) none).run Tryd.prog w = .ok (sliced a l.toNat h.toNat rc 1) w := by
  rw [run_slice_lh w 31 a len rc (by kernel_rfl) .i64 .i64 l h h0 h1 h2]
  have e : (sizeOf (Tryd.prog.elem 31)).run Tryd.prog w = .ok 1 w := by kernel_rfl
  rw [e]
  rfl
/-- A part of a row that is owned, read as text. -/
theorem reads_part {W : World} {B g rc : Nat} {l : List UInt8} (hown : W.ownsRow B 5 1 (.slice (some ⟨g, 0, none⟩) l.length rc) l.length (Lib.byteCells l)) (hrc : l.length ≤ rc) (lo n : Nat) (h : lo + n ≤ l.length) :
    Reads W (sliced (some ⟨g, 0, none⟩) lo (lo + n) rc 1) ((l.drop lo).take n) := by
  intro m
  have hlen : ((l.drop lo).take n).length = n := by rw [List.length_take, List.length_drop]; omega
  have hsl : sliced (some ⟨g, 0, none⟩) lo (lo + n) rc 1 = .slice (if rc = lo then some ⟨g, 0, none⟩ else some ((⟨g, 0, none⟩ : Addr).add (lo * 1))) ((l.drop lo).take n).length (rc - lo) := by
    unfold sliced
    rw [hlen, show lo + n - lo = n from by omega]
    rfl
  rw [hsl]
  by_cases e : rc = lo
  · rw [if_pos e]
    exact run_convert_bytes_back (P := Tryd.prog) (W.drewN m) 31 9 5 _ _ _ Tryd.underlying31 Tryd.underlying5 Tryd.underlying9 (fun j hj => by omega)
  · rw [if_neg e]
    refine run_convert_bytes_back (P := Tryd.prog) (W.drewN m) 31 9 5 _ _ _ Tryd.underlying31 Tryd.underlying5 Tryd.underlying9 (fun j hj => ?_)
    have hj' : lo + j < l.length := by omega
    have hadd : ((⟨g, 0, none⟩ : Addr).add (lo * 1)).add j = ⟨g, lo + j, none⟩ := by
      unfold Addr.add
      by_cases h1 : lo = 0 <;> by_cases h2 : j = 0 <;> simp [h1, h2]
    rw [hadd]
    show W.cell? _ = _
    rw [hown.cellAt (lo + j) (by omega)]
    simp [Lib.byteCells, hj']
set_option maxHeartbeats 1600000 in
set_option maxRecDepth 100000 in
theorem rrtext_ok (B b : Nat) (v : Value) (l : List UInt8) (p : Nat) (most : Int) (n k : Nat) (w : World) (h : IsRR B b v l (p : Int) 0 w) (hp : p ≤ l.length) (hs : l.length ≤ 140737488355328) (hF : Nm.first (l.drop p) most = ((n : Int), (k : Int), 0)) (hk1 : 1 ≤ k) (hpk : p + k + n ≤ l.length) :
    Calls Tryd.prog 45 #[.pointer (some ⟨b, 0, none⟩), .int .i64 most] w fun r w' => r = .returned (.string ⟨((l.drop (p + k)).take n).toArray⟩) ∧ IsRR B b v l ((p : Int) + (k : Int) + (n : Int)) 0 w' ∧ Keeps (fun x => x = b) w w' := by
  obtain ⟨g, rc, rfl, _⟩ := h.byte p (by omega)
  obtain ⟨ra', rc', hv', hrc'⟩ := h.form
  obtain rfl : rc = rc' := by injection hv'
  have HF := aside hF
  have H := aside h
  have h0 := h.c0
  have h1 := h.c1
  have h2 := h.c2
  have hf1 := h.f1
  have hl' : (l.length : Int) ≤ 140737488355328 := by omega
  have hp1 : (p : Int) + (k : Int) + (n : Int) ≤ (l.length : Int) := by omega
  have hn' : ¬ (l.length : Int) - (p : Int) - (k : Int) < (n : Int) := by omega
  have hsl := slice_run (some ⟨g, 0, none⟩) l.length rc ((p : Int) + (k : Int)) ((p : Int) + (k : Int) + (n : Int)) (by omega) (by omega) (by omega)
  rw [show ((p : Int) + (k : Int)).toNat = p + k from by omega, show ((p : Int) + (k : Int) + (n : Int)).toNat = p + k + n from by omega] at hsl
  have hRD := fun q : Nat => reads_part ((H.out.drewN q).set1 ((p : Int) + (k : Int) + (n : Int))).2.1 hrc' (p + k) n (by omega)
  obtain ⟨v2, hv2⟩ : ∃ v2, v2 = sliced (some ⟨g, 0, none⟩) (p + k) (p + k + n) rc 1 := ⟨_, rfl⟩
  rw [← hv2] at hsl hRD
  have hcv := fun q => hRD q
  unfold Reads at hcv
  clear hF h hv' hv2 hRD
  go_enter Tryd.func45, Tryd.ntmps45
  go_wp2_with fail
  refine (number_at B b _ l p 0 most n k 0 _ H.out hp hs HF.out).mono ?_
  rintro r w1 ⟨rfl, q, rfl⟩
  go_wp2_with fail
  go_quiet (fail)
  go_wp2
  go_quiet (fail)
  go_wp2
  go_ret
  exact ⟨rfl, (H.out.drewN q).set1 _, ((Keeps.refl (fun x => x = b) w).setCell (p := ⟨b, 1, none⟩) (fun _ => rfl) _).trans ⟨rfl, rfl, rfl, Nat.le_refl _, fun _ _ _ => rfl⟩⟩
end Go.Proofs.YtlbkcndmljlnmaaDoor
namespace Go.Proofs.YtlbkcndmljlnmaaDoor
open Go.RowKit
set_option linter.unusedVariables false
set_option maxHeartbeats 400000 in
theorem rrflag_broken (B b : Nat) (v : Value) (l : List UInt8) (p e : Int) (w : World) (h : IsRR B b v l p e w) (he : e ≠ 0) :
    Calls Tryd.prog 75 #[.pointer (some ⟨b, 0, none⟩)] w fun r w' => r = .returned (.bool false) ∧ w' = w := by
  have h2 := h.c2
  have hb : (e != 0) = true := by simp [he]
  go_enter Tryd.func75, Tryd.ntmps75
  go_wp2
  go_ret
  exact ⟨rfl, rfl⟩
set_option maxHeartbeats 1600000 in
set_option maxRecDepth 100000 in
theorem rrflag_end (B b : Nat) (v : Value) (l : List UInt8) (p : Nat) (w : World) (h : IsRR B b v l (p : Int) 0 w) (hp : p = l.length) (hs : l.length ≤ 140737488355328) :
    Calls Tryd.prog 75 #[.pointer (some ⟨b, 0, none⟩)] w fun r w' => r = .returned (.bool false) ∧ IsRR B b v l (p : Int) 10 w' ∧ Keeps (fun x => x = b) w w' := by
  obtain ⟨ra, rc, rfl, hrc⟩ := h.form
  have H := aside h
  have h0 := h.c0
  have h1 := h.c1
  have h2 := h.c2
  have hf2 := h.f2
  have hge : (l.length : Int) ≤ (p : Int) := by omega
  clear h hp
  go_enter Tryd.func75, Tryd.ntmps75
  go_wp2_with fail
  go_quiet (fail)
  go_wp2
  go_ret
  exact ⟨rfl, H.out.set2 10, (((Keeps.refl (fun x => x = b) w).drewN _).setCell (p := ⟨b, 2, none⟩) (fun _ => rfl) _)⟩
set_option maxHeartbeats 1600000 in
set_option maxRecDepth 100000 in
theorem rrflag_form (B b : Nat) (v : Value) (l : List UInt8) (p : Nat) (c : UInt8) (w : World) (h : IsRR B b v l (p : Int) 0 w) (hp : p < l.length) (hc : l[p] = c) (h1c : 1 < c.toNat) (hs : l.length ≤ 140737488355328) :
    Calls Tryd.prog 75 #[.pointer (some ⟨b, 0, none⟩)] w fun r w' => r = .returned (.bool false) ∧ IsRR B b v l (p : Int) 11 w' ∧ Keeps (fun x => x = b) w w' := by
  obtain ⟨g, rc, rfl, hcell⟩ := h.byte p hp
  rw [hc] at hcell
  have H := aside h
  have h0 := h.c0
  have h1 := h.c1
  have h2 := h.c2
  have hf2 := h.f2
  have hlt : (p : Int) < (l.length : Int) := by omega
  have g1 : (1 : Int) < (c.toNat : Int) := by omega
  clear h hc h1c hp
  go_enter Tryd.func75, Tryd.ntmps75
  go_wp2_with fail
  go_quiet (fail)
  go_wp2
  go_quiet (fail)
  go_wp2
  go_ret
  exact ⟨rfl, H.out.set2 11, (((Keeps.refl (fun x => x = b) w).drewN _).setCell (p := ⟨b, 2, none⟩) (fun _ => rfl) _)⟩
set_option maxHeartbeats 1600000 in
set_option maxRecDepth 100000 in
theorem rrflag_ok (B b : Nat) (v : Value) (l : List UInt8) (p : Nat) (c : UInt8) (w : World) (h : IsRR B b v l (p : Int) 0 w) (hp : p < l.length) (hc : l[p] = c) (h1c : ¬ 1 < c.toNat) (hs : l.length ≤ 140737488355328) :
    Calls Tryd.prog 75 #[.pointer (some ⟨b, 0, none⟩)] w fun r w' => r = .returned (.bool ((c.toNat : Int) == 1)) ∧ IsRR B b v l ((p : Int) + 1) 0 w' ∧ Keeps (fun x => x = b) w w' := by
  obtain ⟨g, rc, rfl, hcell⟩ := h.byte p hp
  rw [hc] at hcell
  have H := aside h
  have h0 := h.c0
  have h1 := h.c1
  have h2 := h.c2
  have hf1 := h.f1
  have hlt : (p : Int) < (l.length : Int) := by omega
  have hl' : (l.length : Int) ≤ 140737488355328 := by omega
  have g1 : (c.toNat : Int) ≤ 1 := by omega
  clear h hc h1c hp
  go_enter Tryd.func75, Tryd.ntmps75
  go_wp2_with fail
  go_quiet (fail)
  go_wp2
  go_quiet (fail)
  go_wp2
  go_ret
  exact ⟨rfl, H.out.set1 _, (((Keeps.refl (fun x => x = b) w).drewN _).setCell (p := ⟨b, 1, none⟩) (fun _ => rfl) _)⟩
end Go.Proofs.YtlbkcndmljlnmaaDoor
namespace Go.Proofs.YtlbkcndmljlnmaaDoor
open Go.RowKit
set_option linter.unusedVariables false
set_option maxHeartbeats 1600000 in
set_option maxRecDepth 100000 in
/-- Nothing is left: broken before or now. -/
theorem rflag_end (b : Nat) (s : ByteArray) (p : Nat) (e : Int) (w : World) (h : IsR b s (p : Int) e w) (hp : p = s.size) (hs : s.size ≤ 1099511627776) :
    Calls Tryd.prog 111 #[.pointer (some ⟨b, 0, none⟩)] w fun r w' => r = .returned (.bool false) ∧ IsR b s (p : Int) (failOf e 10) w' ∧ Keeps (fun x => x = b) w w' := by
  have H := aside h
  have hl : (s.size : Int) - (p : Int) = 0 := by omega
  have hne : (failOf e 10 != 0) = true := by
    unfold failOf
    split
    · rfl
    · rw [bne_iff_ne]; assumption
  have HL := aside hl
  clear h hl
  go_enter Tryd.func111, Tryd.ntmps111
  go_wp2_with fail
  refine (rleft_any b s (p : Int) e _ H.out (by omega) (by omega) hs).mono ?_
  rintro r w1 ⟨rfl, nq, rfl⟩
  rw [HL.out]
  go_wp2_with fail
  refine (rfail_any b s (p : Int) e 10 _ (by exact H.out)).mono ?_
  rintro r w2 ⟨rfl, hr, hk⟩
  have h2 := hr.c2
  have HR := aside hr
  clear hr
  go_wp2
  go_ret
  exact ⟨rfl, HR.out, ((Keeps.refl (fun x => x = b) w).drewN _).trans hk⟩
set_option maxHeartbeats 1600000 in
set_option maxRecDepth 100000 in
/-- A byte above 1. -/
theorem rflag_form (b : Nat) (s : ByteArray) (p : Nat) (e : Int) (c : UInt8) (w : World) (h : IsR b s (p : Int) e w) (hp : p < s.size) (hc : s[p] = c) (h1 : 1 < c.toNat) (hs : s.size ≤ 1099511627776) :
    Calls Tryd.prog 111 #[.pointer (some ⟨b, 0, none⟩)] w fun r w' => r = .returned (.bool false) ∧ IsR b s (p : Int) (failOf e 11) w' ∧ Keeps (fun x => x = b) w w' := by
  have H := aside h
  have hix := idx_str' s p hp (p : Int) rfl
  rw [hc] at hix
  have hp0 : (0 : Int) ≤ (p : Int) := by omega
  have hp1 : (p : Int) < (s.size : Int) := by omega
  have hl : ((s.size : Int) - (p : Int) == 0) = false := by rw [beq_eq_false_iff_ne]; omega
  have g1 : (1 : Int) < (c.toNat : Int) := by omega
  have hne : (failOf e 11 != 0) = true := by
    unfold failOf
    split
    · rfl
    · rw [bne_iff_ne]; assumption
  have h0 := h.c0
  have h1' := h.c1
  clear h hc h1 hp
  go_enter Tryd.func111, Tryd.ntmps111
  go_wp2_with fail
  refine (rleft_any b s (p : Int) e _ H.out hp0 (by omega) hs).mono ?_
  rintro r w1 ⟨rfl, nq, rfl⟩
  go_wp2_with fail
  go_quiet (fail)
  go_wp2_with fail
  refine (rfail_any b s (p : Int) e 11 _ (by exact H.out)).mono ?_
  rintro r w2 ⟨rfl, hr, hk⟩
  have h2 := hr.c2
  have HR := aside hr
  clear hr
  go_wp2
  go_ret
  exact ⟨rfl, HR.out, ((Keeps.refl (fun x => x = b) w).drewN _).trans hk⟩
set_option maxHeartbeats 1600000 in
set_option maxRecDepth 100000 in
/-- Broken before, a byte that may be. -/
theorem rflag_broken (b : Nat) (s : ByteArray) (p : Nat) (e : Int) (c : UInt8) (w : World) (h : IsR b s (p : Int) e w) (he : e ≠ 0) (hp : p < s.size) (hc : s[p] = c) (h1 : ¬ 1 < c.toNat) (hs : s.size ≤ 1099511627776) :
    Calls Tryd.prog 111 #[.pointer (some ⟨b, 0, none⟩)] w fun r w' => r = .returned (.bool false) ∧ IsR b s (p : Int) e w' ∧ Keeps (fun x => x = b) w w' := by
  have H := aside h
  have hix := idx_str' s p hp (p : Int) rfl
  rw [hc] at hix
  have hp0 : (0 : Int) ≤ (p : Int) := by omega
  have hp1 : (p : Int) < (s.size : Int) := by omega
  have hl : ((s.size : Int) - (p : Int) == 0) = false := by rw [beq_eq_false_iff_ne]; omega
  have g1 : (c.toNat : Int) ≤ 1 := by omega
  have hne : (e != 0) = true := by rw [bne_iff_ne]; exact he
  have h0 := h.c0
  have h1' := h.c1
  have h2 := h.c2
  clear h hc h1 hp he
  go_enter Tryd.func111, Tryd.ntmps111
  go_wp2_with fail
  refine (rleft_any b s (p : Int) e _ H.out hp0 (by omega) hs).mono ?_
  rintro r w1 ⟨rfl, nq, rfl⟩
  go_wp2_with fail
  go_quiet (fail)
  go_wp2
  go_ret
  exact ⟨rfl, H.out, ⟨rfl, rfl, rfl, Nat.le_refl _, fun _ _ _ => rfl⟩⟩
set_option maxHeartbeats 1600000 in
set_option maxRecDepth 100000 in
theorem rflag_ok (b : Nat) (s : ByteArray) (p : Nat) (c : UInt8) (w : World) (h : IsR b s (p : Int) 0 w) (hp : p < s.size) (hc : s[p] = c) (h1 : ¬ 1 < c.toNat) (hs : s.size ≤ 1099511627776) :
    Calls Tryd.prog 111 #[.pointer (some ⟨b, 0, none⟩)] w fun r w' => r = .returned (.bool ((c.toNat : Int) == 1)) ∧ IsR b s ((p : Int) + 1) 0 w' ∧ Keeps (fun x => x = b) w w' := by
  have H := aside h
  have hix := idx_str' s p hp (p : Int) rfl
  rw [hc] at hix
  have hp0 : (0 : Int) ≤ (p : Int) := by omega
  have hp1 : (p : Int) < (s.size : Int) := by omega
  have hl : ((s.size : Int) - (p : Int) == 0) = false := by rw [beq_eq_false_iff_ne]; omega
  have g1 : (c.toNat : Int) ≤ 1 := by omega
  have h0 := h.c0
  have h1' := h.c1
  have h2 := h.c2
  have hf1 := h.f1
  clear h hc h1 hp
  go_enter Tryd.func111, Tryd.ntmps111
  go_wp2_with fail
  refine (rleft_any b s (p : Int) 0 _ H.out hp0 (by omega) hs).mono ?_
  rintro r w1 ⟨rfl, nq, rfl⟩
  go_wp2_with fail
  go_quiet (fail)
  go_wp2
  go_quiet (fail)
  go_wp2
  go_ret
  exact ⟨rfl, H.out.set1 _, ((Keeps.refl (fun x => x = b) w).setCell (p := ⟨b, 1, none⟩) (fun _ => rfl) _).trans ⟨rfl, rfl, rfl, Nat.le_refl _, fun _ _ _ => rfl⟩⟩
end Go.Proofs.YtlbkcndmljlnmaaDoor

/-
  Parse, the document's own, by a contract.
-/
import Derived.Test.YtnjbglnkhgholabDoorDgWalks
namespace Go.Proofs.YtnjbglnkhgholabDoor
open Go.RowKit
set_option linter.unusedVariables false

/-- The document's loop: k digits are gone through; n is their worth, unless it passed the greatest int. -/
def ParRel (s : ByteArray) (w : World) (vn vb vi : Value) (wr : World) : Prop :=
  ∃ (k n : Nat) (big : Bool), k ≤ s.size ∧ vn = .int .i64 (n : Int) ∧ vb = .bool big ∧ vi = .int .i64 (k : Int) ∧ allDig (s.data.toList.take k) ∧ n ≤ 9223372036854775807 ∧
    (big = false → n = valD 0 (s.data.toList.take k)) ∧ (big = true → 9223372036854775807 < valD 0 (s.data.toList.take k)) ∧ wr = w

/-- What the loop reckons of a digit. -/
def ParNums (c : UInt8) (d m q : Nat) : Prop := c.toNat = 48 + d ∧ m + d = 9223372036854775807 ∧ 10 * q ≤ m ∧ m < 10 * q + 10 ∧ d ≤ 9

theorem par_nums (c : UInt8) (hc : isDig c) : ∃ d m q : Nat, ParNums c d m q ∧ IntKind.u8.wrap ((c.toNat : Int) - 48) = (d : Int) ∧ wrap64 (d : Int) = (d : Int) ∧ wrap64 (9223372036854775807 - (d : Int)) = (m : Int) ∧
    wrap64 ((m : Int).tdiv 10) = (q : Int) ∧ wrap64 ((m : Int) / 10) = (q : Int) := by
  obtain ⟨d, hd⟩ : ∃ d : Nat, c.toNat = 48 + d := ⟨c.toNat - 48, by have := hc.1; omega⟩
  have hd9 : d ≤ 9 := by have := hc.2; omega
  obtain ⟨m, hm⟩ : ∃ m : Nat, m + d = 9223372036854775807 := ⟨(9223372036854775807 - (d : Int)).toNat, by omega⟩
  obtain ⟨q, hq⟩ : ∃ q : Nat, 10 * q ≤ m ∧ m < 10 * q + 10 := ⟨m / 10, by omega⟩
  have e : ((m : Int) / 10) = (q : Int) := by omega
  refine ⟨d, m, q, ⟨hd, hm, hq.1, hq.2, hd9⟩, by rw [IntKind.wrap_u8]; omega, w64 _ (by omega) (by omega), ?_, ?_, ?_⟩
  · rw [w64 _ (by omega) (by omega)]; omega
  · rw [Int.tdiv_eq_ediv_of_nonneg (by omega), e]; exact w64 _ (by omega) (by omega)
  · rw [e]; exact w64 _ (by omega) (by omega)

theorem par_step {c : UInt8} {d m q n : Nat} (h : ParNums c d m q) (hn : n ≤ q) : wrap64 (10 * (n : Int)) = 10 * (n : Int) ∧ wrap64 (10 * (n : Int) + (d : Int)) = 10 * (n : Int) + (d : Int) := by
  obtain ⟨_, h2, h3, _, _⟩ := h
  exact ⟨w64 _ (by omega) (by omega), w64 _ (by omega) (by omega)⟩

theorem par_rel_big {s : ByteArray} {k n : Nat} {big : Bool} {c : UInt8} {d m q : Nat} {w : World} (hlt : k < s.size) (hE : ParNums c d m q) (hq : q < n) (hI : isDig c) (hT : s.data.toList.take (k + 1) = s.data.toList.take k ++ [c])
    (hD : allDig (s.data.toList.take k)) (hV : big = false → n = valD 0 (s.data.toList.take k)) (hG : big = true → 9223372036854775807 < valD 0 (s.data.toList.take k)) :
    ParRel s w (.int .i64 (d : Int)) (.bool true) (.int .i64 ((k : Int) + 1)) w := by
  obtain ⟨hE1, hE2, hE3, hE4, hE5⟩ := hE
  refine ⟨k + 1, d, true, hlt, rfl, rfl, rfl, by rw [hT]; exact allDig_snoc hD hI, by omega, (fun h => absurd h (by decide)), (fun _ => ?_), rfl⟩
  rw [hT, valD_snoc]
  generalize valD 0 (s.data.toList.take k) = v at hV hG
  cases big with
  | false => have := hV rfl; omega
  | true => have := hG rfl; omega

theorem par_rel_on {s : ByteArray} {k n : Nat} {big : Bool} {c : UInt8} {d m q : Nat} {w : World} (hlt : k < s.size) (hE : ParNums c d m q) (hq : n ≤ q) (hI : isDig c) (hT : s.data.toList.take (k + 1) = s.data.toList.take k ++ [c])
    (hD : allDig (s.data.toList.take k)) (hV : big = false → n = valD 0 (s.data.toList.take k)) (hG : big = true → 9223372036854775807 < valD 0 (s.data.toList.take k)) :
    ParRel s w (.int .i64 (10 * (n : Int) + (d : Int))) (.bool big) (.int .i64 ((k : Int) + 1)) w := by
  obtain ⟨hE1, hE2, hE3, hE4, hE5⟩ := hE
  refine ⟨k + 1, 10 * n + d, big, hlt, congrArg (Value.int .i64) (by omega), rfl, rfl, by rw [hT]; exact allDig_snoc hD hI, by omega, (fun h => ?_), (fun h => ?_), rfl⟩
  · rw [hT, valD_snoc, ← hV h]; omega
  · have := hG h
    rw [hT, valD_snoc]
    generalize valD 0 (s.data.toList.take k) = v at this
    omega

theorem meas_up {S k : Nat} (h : k < S) : S - (intOf (Value.int IntKind.i64 ((k : Int) + 1))).toNat < S - (intOf (Value.int IntKind.i64 (k : Int))).toNat := by
  simp only [intOf]
  omega

theorem head_of {s : ByteArray} (h0 : 0 < s.size) : s.data.toList.head? = some s[0] := by
  have hsz : s.data.toList.length = s.size := by show s.data.toList.length = s.data.size; simp
  rw [List.head?_eq_getElem?, List.getElem?_eq_getElem (by omega)]
  rfl

theorem not_num_nil : ¬ isNum [] := by
  rintro ⟨_, x | ⟨x, _⟩⟩
  · cases x
  · exact x rfl

theorem not_num_zero {s : ByteArray} (h0 : 0 < s.size) (hl : 1 < s.size ∧ s[0].toNat = 48) : ¬ isNum s.data.toList := by
  have hsz : s.data.toList.length = s.size := by show s.data.toList.length = s.data.size; simp
  rintro ⟨_, x | ⟨_, x⟩⟩
  · rw [x] at hsz; have := hl.1; simp at hsz; omega
  · exact x (by rw [head_of h0]; exact congrArg some (UInt8.toNat_inj.1 hl.2))

theorem num_of {s : ByteArray} (h0 : 0 < s.size) (hl : ¬ (1 < s.size ∧ s[0].toNat = 48)) (hd : allDig s.data.toList) : isNum s.data.toList := by
  have hsz : s.data.toList.length = s.size := by show s.data.toList.length = s.data.size; simp
  have hh := head_of h0
  refine ⟨hd, ?_⟩
  by_cases h48 : s[0].toNat = 48
  · left
    have h1 : ¬ 1 < s.size := fun h => hl ⟨h, h48⟩
    obtain ⟨c, hc⟩ := List.length_eq_one_iff.1 (show s.data.toList.length = 1 by omega)
    rw [hc] at hh ⊢
    have e : c = s[0] := Option.some.inj hh
    rw [e]
    exact congrArg (fun x => [x]) (UInt8.toNat_inj.1 h48)
  · refine .inr ⟨(fun x => by rw [x] at hh; cases hh), (fun x => ?_)⟩
    rw [hh] at x
    exact h48 (by rw [Option.some.inj x]; rfl)

theorem parse_over {l : List UInt8} {most : Int} (h : isNum l) (hv : 9223372036854775807 < valD 0 l ∨ most < (valD 0 l : Int)) : parseP l most = (0, 12) := by
  unfold parseP
  rw [if_pos h]
  generalize valD 0 l = v at hv ⊢
  exact if_pos (by omega)

theorem parse_on {l : List UInt8} {most : Int} {n : Nat} (h : isNum l) (hv : n = valD 0 l) (hn : n ≤ 9223372036854775807) (hm : ¬ most < (n : Int)) : parseP l most = ((n : Int), 0) := by
  unfold parseP
  rw [if_pos h, ← hv]
  exact if_neg (by omega)

theorem parse_bad {l : List UInt8} {most : Int} (h : ¬ isNum l) : parseP l most = (0, 23) := if_neg h

set_option maxHeartbeats 800000 in
set_option maxRecDepth 100000 in
theorem refParse_loop (s : ByteArray) (most : Int) (hs : s.size ≤ 2147483647) (h0 : 0 < s.size) (hl : ¬ (1 < s.size ∧ s[0].toNat = 48)) (w : World) :
    Calls Tryd.prog 26 #[.string s, .int .i64 most] w fun e w' => e = .returned (.tuple #[.int .i64 (parseP s.data.toList most).1, .int .i64 (parseP s.data.toList most).2]) ∧ Below w.heap.size w w' := by
  have HL := aside hl
  have hz : ((s.size : Int) == 0) = false := by rw [beq_eq_false_iff_ne]; omega
  have hne : ¬ s = ByteArray.empty := by intro e; rw [e] at h0; exact absurd h0 (by decide)
  have hb : (((s[0]).toNat : Int) == 48) = true → ¬ (1 : Int) < (s.size : Int) := fun h h1 => hl ⟨by omega, by have := beq_iff_eq.1 h; omega⟩
  have hfirst : Hid (1 < s.size → ((s[0].toNat : Int) == 48) = false) := fun h1 => by rw [beq_eq_false_iff_ne]; intro e; exact hl ⟨h1, by omega⟩
  clear hl hb
  go_enter Tryd.func26, Tryd.ntmps26
  have hgo : ∀ k : Nat, 1 < s.size → (1 : Int) < (s.size : Int) := fun _ _ => by omega
  by_cases h1 : (1 : Int) < (s.size : Int)
  · have hb := hfirst.out (by omega)
    go_wp2
    clear hgo
    go_loopw [6, 7, 8] (fun vn vb vi wr => ParRel s w vn vb vi wr) (fun _ _ i _ => s.size - (intOf i).toNat)
    case atStart => exact ⟨0, 0, false, Nat.zero_le _, rfl, rfl, rfl, (fun _ h => by simp at h), by omega, (fun _ => rfl), (fun h => absurd h (by decide)), rfl⟩
    case round =>
      obtain ⟨k, n, big, hk, rfl, rfl, rfl, hd, hn, hval, hbig, rfl⟩ := hrel
      by_cases hlt : k < s.size
      · have hk1 : (k : Int) < (s.size : Int) := by omega
        have hix := idx_strD s k hlt
        have hts := take_snoc s k hlt
        have hbad := numB_bad hlt
        obtain ⟨c, hc⟩ : ∃ c, c = s[k] := ⟨_, rfl⟩
        rw [← hc] at hix hts hbad
        have HT := aside hts
        have HB := aside hbad
        have HD := aside hd
        have HV := aside hval
        have HG := aside hbig
        have HN := aside hn
        clear hc hts hbad hd hval hbig hn
        by_cases hc1 : (c.toNat : Int) < 48
        · have HF : Hid (parseP s.data.toList most = (0, 23)) := parse_bad (of_decide_eq_false (HB.out (fun x => by have := x.1; omega)))
          go_wp2
          go_ret2
          exact ⟨by rw [HF.out]; rfl, Below.refl _ _⟩
        · by_cases hc2 : (57 : Int) < (c.toNat : Int)
          · have HF : Hid (parseP s.data.toList most = (0, 23)) := parse_bad (of_decide_eq_false (HB.out (fun x => by have := x.2; omega)))
            go_wp2
            go_ret2
            exact ⟨by rw [HF.out]; rfl, Below.refl _ _⟩
          · have hdg : isDig c := ⟨by omega, by omega⟩
            obtain ⟨d, m, q, hE, hw1, hw2, hw3, hw4, hw4'⟩ := par_nums c hdg
            have HE := aside hE
            have HI := aside hdg
            clear hdg
            by_cases hq : (q : Int) < (n : Int)
            · have hq' : q < n := Int.ofNat_lt.1 hq
              clear hE
              go_wp2
              go_roundw
              case rel => rw [hw2]; exact par_rel_big hlt HE.out hq' HI.out HT.out HD.out HV.out HG.out
              case measure => exact meas_up hlt
            · have hq' : n ≤ q := Int.ofNat_le.1 (Int.not_lt.1 hq)
              obtain ⟨hw5, hw6⟩ := par_step hE hq'
              clear hE
              go_wp2
              go_roundw
              case rel => rw [hw6]; exact par_rel_on hlt HE.out hq' HI.out HT.out HD.out HV.out HG.out
              case measure => exact meas_up hlt
      · have hkl : k = s.size := by omega
        subst hkl
        rw [take_all] at hd hval hbig
        have hnum := num_of h0 HL.out hd
        clear hd
        cases big with
        | true =>
          have HF : Hid (parseP s.data.toList most = (0, 12)) := parse_over hnum (.inl (hbig rfl))
          clear hnum hval hbig hk hn
          go_wp2
          go_ret2
          exact ⟨by rw [HF.out]; rfl, Below.refl _ _⟩
        | false =>
          by_cases hm : most < (n : Int)
          · have HF : Hid (parseP s.data.toList most = (0, 12)) := parse_over hnum (.inr (by rw [← hval rfl]; exact hm))
            clear hnum hval hbig hk hn
            go_wp2
            go_ret2
            exact ⟨by rw [HF.out]; rfl, Below.refl _ _⟩
          · have HF : Hid (parseP s.data.toList most = ((n : Int), 0)) := parse_on hnum (hval rfl) hn hm
            clear hnum hval hbig hk hn
            go_wp2
            go_ret2
            exact ⟨by rw [HF.out]; rfl, Below.refl _ _⟩
  · go_wp2
    clear hgo
    go_loopw [6, 7, 8] (fun vn vb vi wr => ParRel s w vn vb vi wr) (fun _ _ i _ => s.size - (intOf i).toNat)
    case atStart => exact ⟨0, 0, false, Nat.zero_le _, rfl, rfl, rfl, (fun _ h => by simp at h), by omega, (fun _ => rfl), (fun h => absurd h (by decide)), rfl⟩
    case round =>
      obtain ⟨k, n, big, hk, rfl, rfl, rfl, hd, hn, hval, hbig, rfl⟩ := hrel
      by_cases hlt : k < s.size
      · have hk1 : (k : Int) < (s.size : Int) := by omega
        have hix := idx_strD s k hlt
        have hts := take_snoc s k hlt
        have hbad := numB_bad hlt
        obtain ⟨c, hc⟩ : ∃ c, c = s[k] := ⟨_, rfl⟩
        rw [← hc] at hix hts hbad
        have HT := aside hts
        have HB := aside hbad
        have HD := aside hd
        have HV := aside hval
        have HG := aside hbig
        have HN := aside hn
        clear hc hts hbad hd hval hbig hn
        by_cases hc1 : (c.toNat : Int) < 48
        · have HF : Hid (parseP s.data.toList most = (0, 23)) := parse_bad (of_decide_eq_false (HB.out (fun x => by have := x.1; omega)))
          go_wp2
          go_ret2
          exact ⟨by rw [HF.out]; rfl, Below.refl _ _⟩
        · by_cases hc2 : (57 : Int) < (c.toNat : Int)
          · have HF : Hid (parseP s.data.toList most = (0, 23)) := parse_bad (of_decide_eq_false (HB.out (fun x => by have := x.2; omega)))
            go_wp2
            go_ret2
            exact ⟨by rw [HF.out]; rfl, Below.refl _ _⟩
          · have hdg : isDig c := ⟨by omega, by omega⟩
            obtain ⟨d, m, q, hE, hw1, hw2, hw3, hw4, hw4'⟩ := par_nums c hdg
            have HE := aside hE
            have HI := aside hdg
            clear hdg
            by_cases hq : (q : Int) < (n : Int)
            · have hq' : q < n := Int.ofNat_lt.1 hq
              clear hE
              go_wp2
              go_roundw
              case rel => rw [hw2]; exact par_rel_big hlt HE.out hq' HI.out HT.out HD.out HV.out HG.out
              case measure => exact meas_up hlt
            · have hq' : n ≤ q := Int.ofNat_le.1 (Int.not_lt.1 hq)
              obtain ⟨hw5, hw6⟩ := par_step hE hq'
              clear hE
              go_wp2
              go_roundw
              case rel => rw [hw6]; exact par_rel_on hlt HE.out hq' HI.out HT.out HD.out HV.out HG.out
              case measure => exact meas_up hlt
      · have hkl : k = s.size := by omega
        subst hkl
        rw [take_all] at hd hval hbig
        have hnum := num_of h0 HL.out hd
        clear hd
        cases big with
        | true =>
          have HF : Hid (parseP s.data.toList most = (0, 12)) := parse_over hnum (.inl (hbig rfl))
          clear hnum hval hbig hk hn
          go_wp2
          go_ret2
          exact ⟨by rw [HF.out]; rfl, Below.refl _ _⟩
        | false =>
          by_cases hm : most < (n : Int)
          · have HF : Hid (parseP s.data.toList most = (0, 12)) := parse_over hnum (.inr (by rw [← hval rfl]; exact hm))
            clear hnum hval hbig hk hn
            go_wp2
            go_ret2
            exact ⟨by rw [HF.out]; rfl, Below.refl _ _⟩
          · have HF : Hid (parseP s.data.toList most = ((n : Int), 0)) := parse_on hnum (hval rfl) hn hm
            clear hnum hval hbig hk hn
            go_wp2
            go_ret2
            exact ⟨by rw [HF.out]; rfl, Below.refl _ _⟩

set_option maxHeartbeats 800000 in
set_option maxRecDepth 100000 in
theorem refParse_any (s : ByteArray) (most : Int) (hs : s.size ≤ 2147483647) (w : World) :
    Calls Tryd.prog 26 #[.string s, .int .i64 most] w fun e w' => e = .returned (.tuple #[.int .i64 (parseP s.data.toList most).1, .int .i64 (parseP s.data.toList most).2]) ∧ Below w.heap.size w w' := by
  rcases Nat.eq_zero_or_pos s.size with h0 | h0
  · have hl : s.data.toList = [] := List.length_eq_zero_iff.1 (by show s.data.toList.length = 0; rw [Array.length_toList]; exact h0)
    have HF : Hid (parseP s.data.toList most = (0, 23)) := parse_bad (by rw [hl]; exact not_num_nil)
    have hz : ((s.size : Int) == 0) = true := by rw [beq_iff_eq]; omega
    have h1 : ¬ (1 : Int) < (s.size : Int) := by omega
    clear hl
    go_enter Tryd.func26, Tryd.ntmps26
    go_wp2
    go_ret2
    exact ⟨by rw [HF.out]; rfl, Below.refl _ _⟩
  · by_cases hl : 1 < s.size ∧ s[0].toNat = 48
    · have HF : Hid (parseP s.data.toList most = (0, 23)) := parse_bad (not_num_zero h0 hl)
      have hz : ((s.size : Int) == 0) = false := by rw [beq_eq_false_iff_ne]; omega
      have h1 : (1 : Int) < (s.size : Int) := by omega
      have hb : ((s[0].toNat : Int) == 48) = true := by rw [beq_iff_eq]; omega
      clear hl
      go_enter Tryd.func26, Tryd.ntmps26
      go_wp2
      go_ret2
      exact ⟨by rw [HF.out]; rfl, Below.refl _ _⟩
    · exact refParse_loop s most hs h0 hl w

end Go.Proofs.YtnjbglnkhgholabDoor

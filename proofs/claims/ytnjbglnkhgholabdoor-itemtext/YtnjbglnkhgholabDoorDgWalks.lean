/-
  Digits and Parse, the code's and the document's own, by contracts.
-/
import Derived.Test.YtnjbglnkhgholabDoorDigPlain
import Derived.Test.YtnjbglnkhgholabDoorShelf
import Derived.Test.YtnjbglnkhgholabDoorBytes1
import Derived.WalkKit
import Derived.ProofKit
import Derived.Below
import Derived.BigCall
import Derived.Deep.RegionHeld3
namespace Go.Proofs.YtnjbglnkhgholabDoor
open Go.RowKit
set_option linter.unusedVariables false

/-- A digit's byte. -/
def dch (d : Nat) : UInt8 := UInt8.ofNat (48 + d)
theorem dec_one {u : Nat} (h : u < 10) : Lib.decDigits u = [dch u] := Lib.decDigits_one h
theorem dec_more {u : Nat} (h : ¬ u < 10) : Lib.decDigits u = Lib.decDigits (u / 10) ++ [dch (u % 10)] := dec_big h

theorem wrap_i64_of (x : Int) (h0 : -9223372036854775808 ≤ x) (h1 : x ≤ 9223372036854775807) : IntKind.i64.wrap x = x := by rw [IntKind.wrap_i64]; omega

theorem w64 (x : Int) (h0 : -9223372036854775808 ≤ x) (h1 : x ≤ 9223372036854775807) : wrap64 x = x := by simp only [wrap64]; omega

/-- The ten digits. -/
def tens : ByteArray := ⟨#[48, 49, 50, 51, 52, 53, 54, 55, 56, 57]⟩
theorem tens_at : ∀ i : Fin 10, tens.extract i.val (i.val + 1) = ⟨#[dch i.val]⟩ := by decide +kernel

theorem digit_run (d : Nat) (hd : d < 10) (w : World) :
    (Instr.slice 9 (.string ⟨#[48, 49, 50, 51, 52, 53, 54, 55, 56, 57]⟩) (some (.int .i64 (d : Int))) (some (.int .i64 ((d : Int) + 1))) none).run Tryd.prog w = .ok (.string ⟨#[dch d]⟩) w := by
  have hsz : (⟨#[48, 49, 50, 51, 52, 53, 54, 55, 56, 57]⟩ : ByteArray).size = 10 := rfl
  rw [run_slice_string w 9 _ _ _ _ _ Tryd.underlying9 (by omega) (by omega) (by rw [hsz]; omega)]
  rw [show ((d : Int)).toNat = d from by omega, show ((d : Int) + 1).toNat = d + 1 from by omega]
  exact congrArg (fun s => Result.ok (Value.string s) w) (tens_at ⟨d, hd⟩)

set_option maxHeartbeats 200000 in
set_option maxRecDepth 100000 in
theorem refDigits_any (u : Nat) (hu : u < 9223372036854775808) (w : World) :
    Calls Tryd.prog 14 #[.int .i64 (u : Int)] w fun e w' => e = .returned (.string ⟨(Lib.decDigits u).toArray⟩) ∧ Below w.heap.size w w' := by
  induction u using Nat.strongRecOn generalizing w with
  | _ u ih =>
    by_cases h : u < 10
    · have h' : (u : Int) < 10 := by omega
      have hs := fun w => digit_run u h w
      have HD : Hid (Lib.decDigits u = [dch u]) := dec_one h
      clear ih h
      go_enter Tryd.func14, Tryd.ntmps14
      go_wp2
      go_ret
      exact ⟨by rw [HD.out]; rfl, Below.refl _ _⟩
    · have h' : (10 : Int) ≤ (u : Int) := by omega
      obtain ⟨q, hqE⟩ : ∃ q, q = u / 10 := ⟨_, rfl⟩
      obtain ⟨r, hrE⟩ : ∃ r, r = u % 10 := ⟨_, rfl⟩
      have hq : IntKind.i64.wrap ((u : Int) / 10) = (q : Int) := by rw [wrap_i64_of _ (by omega) (by omega)]; omega
      have hr : (u : Int) % 10 = (r : Int) := by omega
      have hr' : (u : Int).tmod 10 = (r : Int) := by rw [Int.tmod_eq_emod_of_nonneg (by omega)]; omega
      have hw : IntKind.i64.wrap ((r : Int) + 1) = (r : Int) + 1 := wrap_i64_of _ (by omega) (by omega)
      have hs := fun w => digit_run r (by omega) w
      have HD : Hid (Lib.decDigits u = Lib.decDigits q ++ [dch r]) := by rw [hqE, hrE]; exact dec_more h
      obtain ⟨t, ht⟩ : ∃ t : ByteArray, t = ⟨(Lib.decDigits q).toArray⟩ := ⟨_, rfl⟩
      have hlen : t.size ≤ 64 := by rw [ht]; show (Lib.decDigits q).toArray.size ≤ 64; simpa using dec_len q (by omega)
      have hadd : ∀ wx, (Op.stringOp .add t ⟨#[dch r]⟩).run Tryd.prog wx = .ok (.string (t ++ ⟨#[dch r]⟩)) wx := fun wx => run_string_add_sum wx t _ (by show t.size + 1 ≤ _; omega)
      have hsum : t.size + 1 ≤ 9223372036854775807 := by omega
      have IH := aside (ih q (by omega) (by omega))
      rw [← ht] at IH
      have HT := aside ht
      clear ih h hqE hrE ht
      go_enter Tryd.func14, Tryd.ntmps14
      go_wp2_with fail
      go_region_held3 (fun _ => True) (trivial)
        (first | (go_at_call 14; refine (IH.out _).mono ?_; rintro e w1 ⟨rfl, b1⟩))
      go_wp2
      go_ret
      refine ⟨?_, (Below.refl _ _).drew.trans b1⟩
      rw [HD.out, HT.out]
      exact congrArg (fun s => Ending.returned (Value.string s)) (ByteArray.ext (by simp))

set_option maxHeartbeats 400000 in
set_option maxRecDepth 100000 in
theorem refDigits_neg (n : Int) (hn : n < 0) (w : World) :
    Calls Tryd.prog 14 #[.int .i64 n] w fun e w' => e = .returned (.string ⟨(Lib.decDigits 0).toArray⟩) ∧ Below w.heap.size w w' := by
  have hs := fun w => digit_run 0 (by omega) w
  have h10 : n < 10 := by omega
  have HD : Hid (Lib.decDigits 0 = [dch 0]) := dec_one (by omega)
  go_enter Tryd.func14, Tryd.ntmps14
  go_wp2
  go_ret
  exact ⟨by rw [HD.out]; rfl, Below.refl _ _⟩

set_option maxHeartbeats 400000 in
set_option maxRecDepth 100000 in
theorem digits_any (n : Int) (u : Nat) (hu : (u : Int) = max n 0) (hn : n ≤ 9223372036854775807) (w : World) (htab : Lib.TabIs Tryd.prog w "internal/strconv.uint64pow10" .u64 Lib.pow10Tab) :
    Calls Tryd.prog 11 #[.int .i64 n] w fun e w' => e = .returned (.string ⟨(Lib.decDigits u).toArray⟩) ∧ Below w.heap.size w w' := by
  have HI : Hid (Lib.itoa (max n 0) = Lib.decDigits u) := by
    show Lib.itoa (max n 0) = _
    rw [← hu]
    unfold Lib.itoa
    rw [if_neg (by omega), Int.toNat_natCast]
  have HT := aside htab
  have HN := aside hn
  clear htab hu hn
  go_enter Tryd.func11, Tryd.ntmps11
  go_wp2_with fail
  refine (Tryd.strconv_Itoa (max n 0) (by omega) (by have := HN.out; omega) _ HT.out).mono ?_
  rintro e w1 ⟨rfl, k, os, hw1⟩
  have b1 : Below w.heap.size w w1 := by rw [hw1]; exact ⟨rfl, rfl, rfl, by simp [Sort.grow], fun j hj => by simp [Sort.grow, Array.getElem?_append_left hj]⟩
  rw [HI.out]
  clear hw1
  go_wp2
  go_ret
  exact ⟨rfl, b1⟩

theorem idx_strD (s : ByteArray) (k : Nat) (hk : k < s.size) (w : World) :
    (Instr.index 9 (.string s) (.int .i64 (k : Int))).run Tryd.prog w = .ok (.int .u8 (s[k].toNat : Int)) w := by
  rw [run_index_string w 9 _ .i64 _ Tryd.underlying9, dif_pos ⟨by omega, by omega⟩]
  simp only [Int.toNat_natCast]

def numB (l : List UInt8) : Bool := decide (isNum l)

theorem numB_bad {s : ByteArray} {k : Nat} (h : k < s.size) (hb : ¬ isDig s[k]) : numB s.data.toList = false := by
  simp only [numB, decide_eq_false_iff_not]
  intro hn
  exact hb (hn.1 s[k] (by show s.data[k] ∈ s.data.toList; simp))

/-- The loop over digits: k are gone through. -/
def NumRel (s : ByteArray) (w : World) (i : Value) (wr : World) : Prop :=
  ∃ k : Nat, k ≤ s.size ∧ i = .int .i64 (k : Int) ∧ allDig (s.data.toList.take k) ∧ wr = w

theorem allDig_snoc {l : List UInt8} {c : UInt8} (h : allDig l) (hc : isDig c) : allDig (l ++ [c]) := by
  intro d hd
  rcases List.mem_append.1 hd with hd | hd
  · exact h d hd
  · rw [List.mem_singleton] at hd; subst hd; exact hc

set_option maxHeartbeats 800000 in
set_option maxRecDepth 100000 in
theorem isNumber_any (s : ByteArray) (hs : s.size ≤ 2147483647) (w : World) :
    Calls Tryd.prog 52 #[.string s] w fun e w' => e = .returned (.bool (numB s.data.toList)) ∧ Below w.heap.size w w' := by
  go_enter Tryd.func52, Tryd.ntmps52
  go_wp2
  go_loopw [6] (fun i wr => NumRel s w i wr) (fun i _ => s.size - (intOf i).toNat)
  case atStart => exact ⟨0, Nat.zero_le _, rfl, fun _ h => by simp at h, rfl⟩
  case round =>
    obtain ⟨k, hk, rfl, hd, rfl⟩ := hrel
    by_cases hlt : k < s.size
    · have hk1 : (k : Int) < (s.size : Int) := by omega
      have hix := idx_strD s k hlt
      have hts := take_snoc s k hlt
      have hbad := numB_bad hlt
      obtain ⟨c, hc⟩ : ∃ c, c = s[k] := ⟨_, rfl⟩
      rw [← hc] at hix hts hbad
      have HT := aside hts
      have HB := aside hbad
      have HD := aside hd
      clear hc hts hbad hd
      by_cases h1 : (c.toNat : Int) < 48
      · have HF : Hid (numB s.data.toList = false) := HB.out (fun x => by have := x.1; omega)
        go_wp2
        go_ret
        exact ⟨by rw [HF.out]; rfl, Below.refl _ _⟩
      · by_cases h2 : (57 : Int) < (c.toNat : Int)
        · have HF : Hid (numB s.data.toList = false) := HB.out (fun x => by have := x.2; omega)
          go_wp2
          go_ret
          exact ⟨by rw [HF.out]; rfl, Below.refl _ _⟩
        · have hdg : isDig c := ⟨by omega, by omega⟩
          have HG := aside hdg
          clear hdg
          go_wp2
          go_roundw
          case rel => exact ⟨k + 1, hlt, by go_num, by rw [HT.out]; exact allDig_snoc HD.out HG.out, rfl⟩
          case measure => simp [intOf]; omega
    · have hkl : k = s.size := by omega
      subst hkl
      rw [take_all] at hd
      have HD := aside hd
      clear hd hk hlt
      have htl := ByteArray.toList_eq s
      have hsz0 : s.data.toList.length = s.size := by show s.data.toList.length = s.data.size; simp
      by_cases hz : s.toList = [48]
      · have HF : Hid (numB s.data.toList = true) := by
          show numB _ = true
          simp only [numB, decide_eq_true_eq]
          exact ⟨HD.out, .inl (by rw [← htl]; exact hz)⟩
        clear htl hsz0
        go_wp2
        go_ret
        exact ⟨by rw [HF.out]; rfl, Below.refl _ _⟩
      · by_cases he : s.toList = []
        · have HF : Hid (numB s.data.toList = false) := by
            show numB _ = false
            simp only [numB, decide_eq_false_iff_not]
            rintro ⟨_, x | ⟨x, _⟩⟩
            · rw [← htl, he] at x; cases x
            · exact x (by rw [← htl]; exact he)
          clear htl hsz0
          go_wp2
          go_ret
          exact ⟨by rw [HF.out]; rfl, Below.refl _ _⟩
        · have h0 : 0 < s.size := by
            rcases Nat.eq_zero_or_pos s.size with h | h
            · exact absurd (by rw [htl]; exact List.length_eq_zero_iff.1 (by omega)) he
            · exact h
          have hB : numB s.data.toList = ((s[0].toNat : Int) != 48) := by
            have hh : s.data.toList.head? = some s[0] := by
              rw [List.head?_eq_getElem?, List.getElem?_eq_getElem (by omega)]
              rfl
            by_cases h48 : s[0].toNat = 48
            · have e1 : ((s[0].toNat : Int) != 48) = false := by rw [bne_eq_false_iff_eq]; omega
              rw [e1]
              simp only [numB, decide_eq_false_iff_not]
              rintro ⟨_, x | ⟨_, x⟩⟩
              · exact hz (by rw [htl]; exact x)
              · exact x (by rw [hh]; exact congrArg some (UInt8.toNat_inj.1 h48))
            · have e1 : ((s[0].toNat : Int) != 48) = true := by rw [bne_iff_ne]; omega
              rw [e1]
              simp only [numB, decide_eq_true_eq]
              exact ⟨HD.out, .inr ⟨by rw [← htl]; exact he, by rw [hh]; intro x; exact h48 (by rw [Option.some.inj x]; rfl)⟩⟩
          have HF := aside hB
          have e1 : (s.toList == [48]) = false := by rw [beq_eq_false_iff_ne]; exact hz
          have e2 : s.toList.isEmpty = false := by cases hl : s.toList with | nil => exact absurd hl he | cons _ _ => rfl
          clear htl hsz0 hB
          go_wp2
          go_ret
          exact ⟨by rw [HF.out]; rfl, Below.refl _ _⟩

end Go.Proofs.YtnjbglnkhgholabDoor

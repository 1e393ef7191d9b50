/-
  Text of the code's reader: broken, it answers nothing and stays; else what the bytes at its place say (textOf).
  Word of the code's reader: broken or with too few bytes left, it answers 0 and stays; else the number of the eight bytes at its place, the highest first.
  Num, Text, Word and Flag of the document's own reader, by contracts.
  Word and Flag of the document's own reader, by contracts.
  Flag of the code's reader: broken, it answers false and stays; else what the byte at its place says.
  What each call of a reader answers and leaves, as plain functions of its bytes, its place and its error: and that both readers, the code's and the document's own, keep to them.
  A slice of bytes that came in as an argument: what it reads as, now and in every later world in which old memory stands.
  A text appended to the bytes of a writer: what is owned then, and where the new row lies; the same for one byte, in one form.
  A slice of bytes that came in: appended, read; the document's new reader of it.
  The code's reader alone: what Num, Text and Flag answer and leave, as the same plain functions.
-/
import Derived.Test.YtbnppmkdhnpdfaaBy1
import Derived.Laws.BitsAllLaws
import Derived.Lib.AppendStr
import Derived.Laws.AppendOwnNone
namespace Go.Proofs.Ytbnppmkdhnpdfaa
open Go.RowKit
set_option linter.unusedVariables false
/-- The text that bytes begin with: it, how many bytes it takes with its number, what is wrong. -/
def textOf (l : List UInt8) (most : Int) : List UInt8 × Int × Int :=
  if (Nm.first l most).2.2 ≠ 0 then ([], 0, (Nm.first l most).2.2)
  else if (l.length : Int) - (Nm.first l most).2.1 < (Nm.first l most).1 then ([], 0, 10)
  else ((l.drop (Nm.first l most).2.1.toNat).take (Nm.first l most).1.toNat, (Nm.first l most).2.1 + (Nm.first l most).1, 0)
theorem extract_part (s : ByteArray) (a n : Nat) (h : a + n ≤ s.size) : s.extract a (a + n) = ⟨((s.data.toList.drop a).take n).toArray⟩ := by
  apply ByteArray.ext
  rw [ByteArray.data_extract]
  apply Array.ext'
  rw [Array.toList_extract, List.extract_eq_take_drop]
  simp
set_option maxHeartbeats 1600000 in
set_option maxRecDepth 100000 in
theorem rtext_broken (b : Nat) (s : ByteArray) (p : Nat) (e most : Int) (w : World) (h : IsR b s (p : Int) e w) (he : e ≠ 0) (hp : p ≤ s.size) (hs : s.size ≤ 1099511627776) :
    Calls Try.prog 92 #[.pointer (some ⟨b, 0, none⟩), .int .i64 most] w fun r w' => r = .returned (.string ⟨#[]⟩) ∧ IsR b s (p : Int) e w' ∧ Keeps (fun x => x = b) w w' := by
  have h0 := h.c0
  have h1 := h.c1
  have hf1 := h.f1
  have hp0 : (0 : Int) ≤ (p : Int) := by omega
  have hp1 : (p : Int) ≤ (s.size : Int) := by omega
  have H := aside h
  clear h
  go_enter Try.func92, Try.ntmps92
  go_wp2_with fail
  refine (rnum_broken b s (p : Int) e most _ H.out he).mono ?_
  rintro r w1 ⟨rfl, rfl⟩
  go_wp2_with fail
  refine (rleft_any b s (p : Int) e _ H.out hp0 hp1 hs).mono ?_
  rintro r w2 ⟨rfl, nq, rfl⟩
  go_wp2_with fail
  go_quiet (fail)
  go_wp2
  go_ret
  exact ⟨rfl, H.out.set1 (p : Int), ((Keeps.refl (fun x => x = b) w1).setCell (p := ⟨b, 1, none⟩) (fun _ => rfl) _).trans ⟨rfl, rfl, rfl, Nat.le_refl _, fun _ _ _ => rfl⟩⟩
/-- What bytes begin with is no number, or one that is too big. -/
theorem textOf_bad {l : List UInt8} {most e : Int} (h : Nm.first l most = (0, 0, e)) (he : e ≠ 0) : textOf l most = ([], 0, e) := by
  unfold textOf; rw [h]; simp [he]
theorem textOf_short {l : List UInt8} {most n k : Int} (h : Nm.first l most = (n, k, 0)) (hn : (l.length : Int) - k < n) : textOf l most = ([], 0, 10) := by
  unfold textOf; rw [h]; simp [hn]
theorem textOf_ok {l : List UInt8} {most n k : Int} (h : Nm.first l most = (n, k, 0)) (hn : ¬ (l.length : Int) - k < n) : textOf l most = ((l.drop k.toNat).take n.toNat, k + n, 0) := by
  unfold textOf; rw [h]; simp only [ne_eq, not_true_eq_false, if_false]; rw [if_neg hn]
set_option maxHeartbeats 1600000 in
set_option maxRecDepth 100000 in
theorem rtext_bad (b : Nat) (s : ByteArray) (p : Nat) (most e : Int) (w : World) (h : IsR b s (p : Int) 0 w) (hp : p ≤ s.size) (hs : s.size ≤ 1099511627776) (hF : Nm.first (s.data.toList.drop p) most = (0, 0, e)) :
    Calls Try.prog 92 #[.pointer (some ⟨b, 0, none⟩), .int .i64 most] w fun r w' => r = .returned (.string ⟨#[]⟩) ∧ IsR b s (p : Int) e w' ∧ Keeps (fun x => x = b) w w' := by
  have h1 := h.c1
  have hp0 : (0 : Int) ≤ (p : Int) := by omega
  have hp1 : (p : Int) ≤ (s.size : Int) := by omega
  have H := aside h
  have HF := aside hF
  clear h hF
  go_enter Try.func92, Try.ntmps92
  go_wp2_with fail
  refine (rnum_any b s p most 0 0 e _ H.out hp hs HF.out).mono ?_
  rintro r w1 ⟨rfl, hr, hk⟩
  rw [show (p : Int) + 0 = (p : Int) from by omega] at hr
  have h10 := hr.c0
  have h11 := hr.c1
  have hf11 := hr.f1
  have HR := aside hr
  clear hr
  go_wp2_with fail
  refine (rleft_any b s (p : Int) e _ HR.out hp0 hp1 hs).mono ?_
  rintro r w2 ⟨rfl, nq, rfl⟩
  go_wp2_with fail
  go_quiet (fail)
  go_wp2
  go_ret
  exact ⟨rfl, HR.out.set1 (p : Int), hk.trans (((Keeps.refl (fun x => x = b) w1).setCell (p := ⟨b, 1, none⟩) (fun _ => rfl) _).trans ⟨rfl, rfl, rfl, Nat.le_refl _, fun _ _ _ => rfl⟩)⟩
set_option maxHeartbeats 1600000 in
set_option maxRecDepth 100000 in
theorem rtext_short (b : Nat) (s : ByteArray) (p : Nat) (most : Int) (n k : Nat) (w : World) (h : IsR b s (p : Int) 0 w) (hp : p ≤ s.size) (hs : s.size ≤ 1099511627776) (hF : Nm.first (s.data.toList.drop p) most = ((n : Int), (k : Int), 0)) (hpk : p + k ≤ s.size) (hn : (s.size : Int) - ((p : Int) + (k : Int)) < (n : Int)) :
    Calls Try.prog 92 #[.pointer (some ⟨b, 0, none⟩), .int .i64 most] w fun r w' => r = .returned (.string ⟨#[]⟩) ∧ IsR b s (p : Int) 10 w' ∧ Keeps (fun x => x = b) w w' := by
  have h1 := h.c1
  have hp0 : (0 : Int) ≤ (p : Int) + (k : Int) := by omega
  have hp1 : (p : Int) + (k : Int) ≤ (s.size : Int) := by omega
  have H := aside h
  have HF := aside hF
  clear h hF
  go_enter Try.func92, Try.ntmps92
  go_wp2_with fail
  refine (rnum_any b s p most n k 0 _ H.out hp hs HF.out).mono ?_
  rintro r w1 ⟨rfl, hr, hk⟩
  have h11 := hr.c1
  have hf11 := hr.f1
  have HR := aside hr
  clear hr
  go_wp2_with fail
  refine (rleft_any b s ((p : Int) + (k : Int)) 0 _ HR.out hp0 hp1 hs).mono ?_
  rintro r w2 ⟨rfl, nq, rfl⟩
  go_wp2_with fail
  refine (rfail_any b s (p : Int) 0 10 _ ?hh).mono ?_
  case hh => exact HR.out.set1 (p : Int)
  rintro r w3 ⟨rfl, hr3, hk3⟩
  go_wp2
  go_ret
  refine ⟨rfl, by simpa [failOf] using hr3, hk.trans (Keeps.trans ?_ hk3)⟩
  exact (((Keeps.refl (fun x => x = b) w1).drewN _).setCell (p := ⟨b, 1, none⟩) (fun _ => rfl) _)
set_option maxHeartbeats 1600000 in
set_option maxRecDepth 100000 in
theorem rtext_ok (b : Nat) (s : ByteArray) (p : Nat) (most : Int) (n k : Nat) (w : World) (h : IsR b s (p : Int) 0 w) (hp : p ≤ s.size) (hs : s.size ≤ 1099511627776) (hF : Nm.first (s.data.toList.drop p) most = ((n : Int), (k : Int), 0)) (hpk : p + k + n ≤ s.size) :
    Calls Try.prog 92 #[.pointer (some ⟨b, 0, none⟩), .int .i64 most] w fun r w' => r = .returned (.string ⟨((s.data.toList.drop (p + k)).take n).toArray⟩) ∧ IsR b s ((p : Int) + (k : Int) + (n : Int)) 0 w' ∧ Keeps (fun x => x = b) w w' := by
  have h1 := h.c1
  have hp0 : (0 : Int) ≤ (p : Int) + (k : Int) := by omega
  have hp1 : (p : Int) + (k : Int) ≤ (s.size : Int) := by omega
  have hp2 : (p : Int) + (k : Int) + (n : Int) ≤ (s.size : Int) := by omega
  have hn : ¬ (s.size : Int) - ((p : Int) + (k : Int)) < (n : Int) := by omega
  have HX := aside (extract_part s (p + k) n (by omega))
  have H := aside h
  have HF := aside hF
  clear h hF
  go_enter Try.func92, Try.ntmps92
  go_wp2_with fail
  refine (rnum_any b s p most n k 0 _ H.out hp hs HF.out).mono ?_
  rintro r w1 ⟨rfl, hr, hk⟩
  have h10 := hr.c0
  have h11 := hr.c1
  have hf11 := hr.f1
  have HR := aside hr
  clear hr
  go_wp2_with fail
  refine (rleft_any b s ((p : Int) + (k : Int)) 0 _ HR.out hp0 hp1 hs).mono ?_
  rintro r w2 ⟨rfl, nq, rfl⟩
  go_wp2_with fail
  go_quiet (fail)
  go_wp2
  go_ret
  refine ⟨?_, HR.out.set1 _, hk.trans (((Keeps.refl (fun x => x = b) w1).setCell (p := ⟨b, 1, none⟩) (fun _ => rfl) _).trans ⟨rfl, rfl, rfl, Nat.le_refl _, fun _ _ _ => rfl⟩)⟩
  show Ending.returned (Value.string (s.extract (p + k) (p + k + n))) = _
  rw [HX.out]
end Go.Proofs.Ytbnppmkdhnpdfaa
namespace Go.Proofs.Ytbnppmkdhnpdfaa
open Go.RowKit
set_option linter.unusedVariables false
/-- Bytes as one number, the highest first. -/
def valB (l : List UInt8) : Nat := l.foldl (fun a c => a * 256 + c.toNat) 0
theorem valB_snoc (l : List UInt8) (c : UInt8) : valB (l ++ [c]) = valB l * 256 + c.toNat := by simp [valB]
theorem valB_lt (l : List UInt8) : valB l < 256 ^ l.length := by
  suffices h : ∀ (l : List UInt8) (a n : Nat), a < 256 ^ n → l.foldl (fun a c => a * 256 + c.toNat) a < 256 ^ (n + l.length) by
    simpa [valB] using h l 0 0 (by simp)
  intro l
  induction l with
  | nil => intro a n h; simpa using h
  | cons c r ih =>
    intro a n h
    simp only [List.foldl_cons, List.length_cons]
    have := ih (a * 256 + c.toNat) (n + 1) (by have := c.toNat_lt; rw [Nat.pow_succ]; omega)
    rwa [show n + (r.length + 1) = n + 1 + r.length from by omega]
set_option maxHeartbeats 1600000 in
set_option maxRecDepth 100000 in
/-- Too few bytes are left: broken before or now. -/
theorem rword_short (b : Nat) (s : ByteArray) (p : Nat) (e : Int) (w : World) (h : IsR b s (p : Int) e w) (hp : p ≤ s.size) (h8 : s.size < p + 8) (hs : s.size ≤ 1099511627776) :
    Calls Try.prog 94 #[.pointer (some ⟨b, 0, none⟩)] w fun r w' => r = .returned (.int .u64 0) ∧ IsR b s (p : Int) (failOf e 10) w' ∧ Keeps (fun x => x = b) w w' := by
  have H := aside h
  have hl : (s.size : Int) - (p : Int) < 8 := by omega
  have hne : (failOf e 10 != 0) = true := by
    unfold failOf
    split
    · rfl
    · rw [bne_iff_ne]; assumption
  clear h
  go_enter Try.func94, Try.ntmps94
  go_wp2_with fail
  refine (rleft_any b s (p : Int) e _ H.out (by omega) (by omega) hs).mono ?_
  rintro r w1 ⟨rfl, nq, rfl⟩
  go_wp2_with fail
  refine (rfail_any b s (p : Int) e 10 _ (by exact H.out)).mono ?_
  rintro r w2 ⟨rfl, hr, hk⟩
  have h2 := hr.c2
  have HR := aside hr
  clear hr
  go_wp2
  go_ret
  exact ⟨rfl, HR.out, ((Keeps.refl (fun x => x = b) w).drewN _).trans hk⟩
set_option maxHeartbeats 1600000 in
set_option maxRecDepth 100000 in
/-- Broken before, with bytes enough. -/
theorem rword_broken (b : Nat) (s : ByteArray) (p : Nat) (e : Int) (w : World) (h : IsR b s (p : Int) e w) (he : e ≠ 0) (h8 : p + 8 ≤ s.size) (hs : s.size ≤ 1099511627776) :
    Calls Try.prog 94 #[.pointer (some ⟨b, 0, none⟩)] w fun r w' => r = .returned (.int .u64 0) ∧ IsR b s (p : Int) e w' ∧ Keeps (fun x => x = b) w w' := by
  have H := aside h
  have hl : ¬ (s.size : Int) - (p : Int) < 8 := by omega
  have hne : (e != 0) = true := by rw [bne_iff_ne]; exact he
  have h2 := h.c2
  clear h he
  go_enter Try.func94, Try.ntmps94
  go_wp2_with fail
  refine (rleft_any b s (p : Int) e _ H.out (by omega) (by omega) hs).mono ?_
  rintro r w1 ⟨rfl, nq, rfl⟩
  go_wp2
  go_ret
  exact ⟨rfl, H.out, ⟨rfl, rfl, rfl, Nat.le_refl _, fun _ _ _ => rfl⟩⟩
def RWordRel (b : Nat) (s : ByteArray) (p : Nat) (w : World) (u i : Value) (wr : World) : Prop :=
  ∃ j acc : Nat, u = .int .u64 (acc : Int) ∧ i = .int .i64 (j : Int) ∧ j ≤ 8 ∧ acc = valB ((s.data.toList.drop p).take j) ∧ IsR b s ((p : Int) + (j : Int)) 0 wr ∧ Keeps (fun x => x = b) w wr
set_option maxHeartbeats 1600000 in
set_option maxRecDepth 100000 in
theorem rword_ok (b : Nat) (s : ByteArray) (p : Nat) (w : World) (h : IsR b s (p : Int) 0 w) (h8 : p + 8 ≤ s.size) (hs : s.size ≤ 1099511627776) :
    Calls Try.prog 94 #[.pointer (some ⟨b, 0, none⟩)] w fun r w' => r = .returned (.int .u64 (valB ((s.data.toList.drop p).take 8) : Int)) ∧ IsR b s ((p : Int) + 8) 0 w' ∧ Keeps (fun x => x = b) w w' := by
  have H := aside h
  have hl : ¬ (s.size : Int) - (p : Int) < 8 := by omega
  have h2 := h.c2
  clear h
  go_enter Try.func94, Try.ntmps94
  go_wp2_with fail
  refine (rleft_any b s (p : Int) 0 _ H.out (by omega) (by omega) hs).mono ?_
  rintro r w1 ⟨rfl, nq, rfl⟩
  go_wp2
  go_loopw [3, 14] (fun u i wr => RWordRel b s p w u i wr) (fun _ i _ => 8 - (intOf i).toNat)
  case atStart => exact ⟨0, 0, rfl, rfl, by omega, rfl, by rw [show (p : Int) + ((0 : Nat) : Int) = (p : Int) from by omega]; exact H.out, ⟨rfl, rfl, rfl, Nat.le_refl _, fun _ _ _ => rfl⟩⟩
  case round =>
    obtain ⟨j, acc, rfl, rfl, hj8, hacc, hr, hk⟩ := hrel
    have hj8' : (j : Int) ≤ 8 := by omega
    by_cases hlt : (j : Int) < 8
    · have hpj : p + j < s.size := by omega
      have hpj' : (p : Int) + (j : Int) < (s.size : Int) := by omega
      have hix := idx_str' s (p + j) hpj ((p : Int) + (j : Int)) (by omega)
      have hdj : (s.data.toList.drop p).take (j + 1) = (s.data.toList.drop p).take j ++ [s[p + j]] := by
        rw [List.take_succ_eq_append_getElem (by simp; omega)]
        simp
        rfl
      obtain ⟨c, hc⟩ : ∃ c, c = s[p + j] := ⟨_, rfl⟩
      rw [← hc] at hix hdj
      clear hc
      have hb := c.toNat_lt
      have hb' : (c.toNat : Int) < 256 := by omega
      have hva := valB_lt ((s.data.toList.drop p).take j)
      have hlj : ((s.data.toList.drop p).take j).length ≤ j := List.length_take_le _ _
      have hacc56 : acc < 72057594037927936 := by
        rw [hacc]
        have h7 : 256 ^ ((s.data.toList.drop p).take j).length ≤ 256 ^ 7 := Nat.pow_le_pow_right (by omega) (by omega)
        have h77 : 256 ^ 7 = 72057594037927936 := by decide
        omega
      have hacc' : (acc : Int) < 72057594037927936 := by omega
      have HJ := aside hdj
      have HA := aside hacc
      have HR := aside hr
      have h0 := hr.c0
      have h1 := hr.c1
      have hf1 := hr.f1
      clear hdj hacc hr hva hlj hacc56 hb hpj hj8 H
      go_wp2_with fail
      go_quiet (fail)
      go_wp2
      go_roundw
      case rel => exact ⟨j + 1, acc * 256 + c.toNat, by go_num, by go_num, by omega, by rw [HJ.out, valB_snoc, ← HA.out], by rw [show (p : Int) + ((j + 1 : Nat) : Int) = (p : Int) + (j : Int) + 1 from by omega]; exact HR.out.set1 _, hk.trans (((Keeps.refl (fun x => x = b) wr).drewN _).setCell (p := ⟨b, 1, none⟩) (fun _ => rfl) _)⟩
      case measure => simp [intOf]; omega
    · have hj : j = 8 := by omega
      subst hj
      have HA := aside hacc
      have HR := aside hr
      clear hacc hr
      go_wp2
      go_ret
      exact ⟨by rw [← HA.out]; rfl, HR.out, hk⟩
end Go.Proofs.Ytbnppmkdhnpdfaa
namespace Go.Proofs.Ytbnppmkdhnpdfaa
open Go.RowKit
set_option linter.unusedVariables false
theorem first_small {l : List UInt8} {most n k e : Int} (hF : Nm.first l most = (n, k, e)) : 0 ≤ k ∧ k ≤ 9 ∧ k ≤ (l.length : Int) ∧ 0 ≤ n ∧ n < 9223372036854775808 ∧ (e ≠ 0 → n = 0 ∧ k = 0) := by
  obtain ⟨n', k', e', hf, h1, h9, _, _, h2, h3, _⟩ := Nm.first_form l most
  rw [hF] at hf
  simp only [Prod.mk.injEq] at hf
  obtain ⟨rfl, rfl, rfl⟩ := hf
  refine ⟨by omega, by omega, by omega, by omega, h3, fun he => ?_⟩
  have := h2 he
  omega
end Go.Proofs.Ytbnppmkdhnpdfaa
namespace Go.Proofs.Ytbnppmkdhnpdfaa
open Go.RowKit
set_option linter.unusedVariables false
end Go.Proofs.Ytbnppmkdhnpdfaa
namespace Go.Proofs.Ytbnppmkdhnpdfaa
open Go.RowKit
set_option linter.unusedVariables false
set_option maxHeartbeats 1600000 in
set_option maxRecDepth 100000 in
/-- Nothing is left: broken before or now. -/
theorem rflag_end (b : Nat) (s : ByteArray) (p : Nat) (e : Int) (w : World) (h : IsR b s (p : Int) e w) (hp : p = s.size) (hs : s.size ≤ 1099511627776) :
    Calls Try.prog 93 #[.pointer (some ⟨b, 0, none⟩)] w fun r w' => r = .returned (.bool false) ∧ IsR b s (p : Int) (failOf e 10) w' ∧ Keeps (fun x => x = b) w w' := by
  have H := aside h
  have hl : (s.size : Int) - (p : Int) = 0 := by omega
  have hne : (failOf e 10 != 0) = true := by
    unfold failOf
    split
    · rfl
    · rw [bne_iff_ne]; assumption
  have HL := aside hl
  clear h hl
  go_enter Try.func93, Try.ntmps93
  go_wp2_with fail
  refine (rleft_any b s (p : Int) e _ H.out (by omega) (by omega) hs).mono ?_
  rintro r w1 ⟨rfl, nq, rfl⟩
  rw [HL.out]
  go_wp2_with fail
  refine (rfail_any b s (p : Int) e 10 _ (by exact H.out)).mono ?_
  rintro r w2 ⟨rfl, hr, hk⟩
  have h2 := hr.c2
  have HR := aside hr
  clear hr
  go_wp2
  go_ret
  exact ⟨rfl, HR.out, ((Keeps.refl (fun x => x = b) w).drewN _).trans hk⟩
set_option maxHeartbeats 1600000 in
set_option maxRecDepth 100000 in
/-- A byte above 1. -/
theorem rflag_form (b : Nat) (s : ByteArray) (p : Nat) (e : Int) (c : UInt8) (w : World) (h : IsR b s (p : Int) e w) (hp : p < s.size) (hc : s[p] = c) (h1 : 1 < c.toNat) (hs : s.size ≤ 1099511627776) :
    Calls Try.prog 93 #[.pointer (some ⟨b, 0, none⟩)] w fun r w' => r = .returned (.bool false) ∧ IsR b s (p : Int) (failOf e 11) w' ∧ Keeps (fun x => x = b) w w' := by
  have H := aside h
  have hix := idx_str' s p hp (p : Int) rfl
  rw [hc] at hix
  have hp0 : (0 : Int) ≤ (p : Int) := by omega
  have hp1 : (p : Int) < (s.size : Int) := by omega
  have hl : ((s.size : Int) - (p : Int) == 0) = false := by rw [beq_eq_false_iff_ne]; omega
  have g1 : (1 : Int) < (c.toNat : Int) := by omega
  have hne : (failOf e 11 != 0) = true := by
    unfold failOf
    split
    · rfl
    · rw [bne_iff_ne]; assumption
  have h0 := h.c0
  have h1' := h.c1
  clear h hc h1 hp
  go_enter Try.func93, Try.ntmps93
  go_wp2_with fail
  refine (rleft_any b s (p : Int) e _ H.out hp0 (by omega) hs).mono ?_
  rintro r w1 ⟨rfl, nq, rfl⟩
  go_wp2_with fail
  go_quiet (fail)
  go_wp2_with fail
  refine (rfail_any b s (p : Int) e 11 _ (by exact H.out)).mono ?_
  rintro r w2 ⟨rfl, hr, hk⟩
  have h2 := hr.c2
  have HR := aside hr
  clear hr
  go_wp2
  go_ret
  exact ⟨rfl, HR.out, ((Keeps.refl (fun x => x = b) w).drewN _).trans hk⟩
set_option maxHeartbeats 1600000 in
set_option maxRecDepth 100000 in
/-- Broken before, a byte that may be. -/
theorem rflag_broken (b : Nat) (s : ByteArray) (p : Nat) (e : Int) (c : UInt8) (w : World) (h : IsR b s (p : Int) e w) (he : e ≠ 0) (hp : p < s.size) (hc : s[p] = c) (h1 : ¬ 1 < c.toNat) (hs : s.size ≤ 1099511627776) :
    Calls Try.prog 93 #[.pointer (some ⟨b, 0, none⟩)] w fun r w' => r = .returned (.bool false) ∧ IsR b s (p : Int) e w' ∧ Keeps (fun x => x = b) w w' := by
  have H := aside h
  have hix := idx_str' s p hp (p : Int) rfl
  rw [hc] at hix
  have hp0 : (0 : Int) ≤ (p : Int) := by omega
  have hp1 : (p : Int) < (s.size : Int) := by omega
  have hl : ((s.size : Int) - (p : Int) == 0) = false := by rw [beq_eq_false_iff_ne]; omega
  have g1 : (c.toNat : Int) ≤ 1 := by omega
  have hne : (e != 0) = true := by rw [bne_iff_ne]; exact he
  have h0 := h.c0
  have h1' := h.c1
  have h2 := h.c2
  clear h hc h1 hp he
  go_enter Try.func93, Try.ntmps93
  go_wp2_with fail
  refine (rleft_any b s (p : Int) e _ H.out hp0 (by omega) hs).mono ?_
  rintro r w1 ⟨rfl, nq, rfl⟩
  go_wp2_with fail
  go_quiet (fail)
  go_wp2
  go_ret
  exact ⟨rfl, H.out, ⟨rfl, rfl, rfl, Nat.le_refl _, fun _ _ _ => rfl⟩⟩
set_option maxHeartbeats 1600000 in
set_option maxRecDepth 100000 in
theorem rflag_ok (b : Nat) (s : ByteArray) (p : Nat) (c : UInt8) (w : World) (h : IsR b s (p : Int) 0 w) (hp : p < s.size) (hc : s[p] = c) (h1 : ¬ 1 < c.toNat) (hs : s.size ≤ 1099511627776) :
    Calls Try.prog 93 #[.pointer (some ⟨b, 0, none⟩)] w fun r w' => r = .returned (.bool ((c.toNat : Int) == 1)) ∧ IsR b s ((p : Int) + 1) 0 w' ∧ Keeps (fun x => x = b) w w' := by
  have H := aside h
  have hix := idx_str' s p hp (p : Int) rfl
  rw [hc] at hix
  have hp0 : (0 : Int) ≤ (p : Int) := by omega
  have hp1 : (p : Int) < (s.size : Int) := by omega
  have hl : ((s.size : Int) - (p : Int) == 0) = false := by rw [beq_eq_false_iff_ne]; omega
  have g1 : (c.toNat : Int) ≤ 1 := by omega
  have h0 := h.c0
  have h1' := h.c1
  have h2 := h.c2
  have hf1 := h.f1
  clear h hc h1 hp
  go_enter Try.func93, Try.ntmps93
  go_wp2_with fail
  refine (rleft_any b s (p : Int) 0 _ H.out hp0 (by omega) hs).mono ?_
  rintro r w1 ⟨rfl, nq, rfl⟩
  go_wp2_with fail
  go_quiet (fail)
  go_wp2
  go_quiet (fail)
  go_wp2
  go_ret
  exact ⟨rfl, H.out.set1 _, ((Keeps.refl (fun x => x = b) w).setCell (p := ⟨b, 1, none⟩) (fun _ => rfl) _).trans ⟨rfl, rfl, rfl, Nat.le_refl _, fun _ _ _ => rfl⟩⟩
end Go.Proofs.Ytbnppmkdhnpdfaa
namespace Go.Proofs.Ytbnppmkdhnpdfaa
open Go.RowKit
set_option linter.unusedVariables false
def numSt (l : List UInt8) (p : Nat) (e most : Int) : Int × Nat × Int :=
  if e ≠ 0 then (0, p, e) else ((Nm.first (l.drop p) most).1, p + (Nm.first (l.drop p) most).2.1.toNat, (Nm.first (l.drop p) most).2.2)
def textSt (l : List UInt8) (p : Nat) (e most : Int) : List UInt8 × Nat × Int :=
  if e ≠ 0 then ([], p, e) else ((textOf (l.drop p) most).1, p + (textOf (l.drop p) most).2.1.toNat, (textOf (l.drop p) most).2.2)
def wordSt (l : List UInt8) (p : Nat) (e : Int) : Nat × Nat × Int :=
  if e ≠ 0 then (0, p, e) else if l.length < p + 8 then (0, p, 10) else (valB ((l.drop p).take 8), p + 8, 0)
def flagSt (l : List UInt8) (p : Nat) (e : Int) : Bool × Nat × Int :=
  if e ≠ 0 then (false, p, e) else if h : p < l.length then (if 1 < l[p].toNat then (false, p, 11) else (((l[p].toNat : Int) == 1), p + 1, 0)) else (false, p, 10)
section
variable {B br bd : Nat} {s : ByteArray} {v : Value} {l : List UInt8} {p : Nat} {e : Int}
theorem first_parts (l : List UInt8) (most : Int) : 0 ≤ (Nm.first l most).2.1 ∧ (Nm.first l most).2.1 ≤ 9 ∧ (Nm.first l most).2.1 ≤ (l.length : Int) ∧ 0 ≤ (Nm.first l most).1 ∧ (Nm.first l most).1 < 9223372036854775808 ∧ ((Nm.first l most).2.2 ≠ 0 → (Nm.first l most).1 = 0 ∧ (Nm.first l most).2.1 = 0) :=
  first_small (show Nm.first l most = ((Nm.first l most).1, (Nm.first l most).2.1, (Nm.first l most).2.2) from rfl)
theorem numSt_le (l : List UInt8) (p : Nat) (e most : Int) (hp : p ≤ l.length) : (numSt l p e most).2.1 ≤ l.length := by
  unfold numSt
  split
  · exact hp
  · have := first_parts (l.drop p) most
    rw [List.length_drop] at this
    simp only
    omega
/-- The three ways of a text. -/
theorem textSt_cases (l : List UInt8) (p : Nat) (most : Int) (hp : p ≤ l.length) :
    (∃ e, e ≠ 0 ∧ Nm.first (l.drop p) most = (0, 0, e) ∧ textSt l p 0 most = ([], p, e)) ∨
    (∃ n k : Nat, Nm.first (l.drop p) most = ((n : Int), (k : Int), 0) ∧ 1 ≤ k ∧ p + k ≤ l.length ∧ (l.length : Int) - ((p : Int) + (k : Int)) < (n : Int) ∧ textSt l p 0 most = ([], p, 10)) ∨
    (∃ n k : Nat, Nm.first (l.drop p) most = ((n : Int), (k : Int), 0) ∧ 1 ≤ k ∧ p + k + n ≤ l.length ∧ textSt l p 0 most = ((l.drop (p + k)).take n, p + k + n, 0)) := by
  obtain ⟨n, k, e, hF, hkl, hk9, he0, he12, hbad, hn63, hk1⟩ := Nm.first_form (l.drop p) most
  rw [List.length_drop] at hkl
  by_cases he : e = 0
  · subst he
    right
    by_cases hn : (l.length : Int) - ((p : Int) + (k : Int)) < (n : Int)
    · left
      refine ⟨n, k, hF, hk1 rfl, by omega, hn, ?_⟩
      have := textOf_short hF (by rw [List.length_drop]; omega)
      simp [textSt, this]
    · right
      refine ⟨n, k, hF, hk1 rfl, by omega, ?_⟩
      have := textOf_ok hF (by rw [List.length_drop]; omega)
      simp only [textSt, this, ne_eq, not_true_eq_false, if_false, List.drop_drop]
      rw [show ((k : Int) + (n : Int)).toNat = k + n from by omega, show ((k : Int)).toNat = k from by omega, show ((n : Int)).toNat = n from by omega, Nat.add_assoc]
  · left
    obtain ⟨rfl, rfl⟩ := hbad he
    refine ⟨e, he, hF, ?_⟩
    have := textOf_bad hF he
    simp [textSt, this]
theorem textSt_le (l : List UInt8) (p : Nat) (e most : Int) (hp : p ≤ l.length) : (textSt l p e most).2.1 ≤ l.length := by
  by_cases he : e = 0
  · subst he
    rcases textSt_cases l p most hp with ⟨e, _, _, h⟩ | ⟨n, k, _, _, _, _, h⟩ | ⟨n, k, _, _, h3, h⟩ <;> rw [h] <;> simp only <;> omega
  · simp [textSt, he, hp]
theorem wordSt_le (l : List UInt8) (p : Nat) (e : Int) (hp : p ≤ l.length) : (wordSt l p e).2.1 ≤ l.length := by
  unfold wordSt
  split
  · exact hp
  · split <;> simp only <;> omega
theorem flagSt_le (l : List UInt8) (p : Nat) (e : Int) (hp : p ≤ l.length) : (flagSt l p e).2.1 ≤ l.length := by
  unfold flagSt
  split
  · exact hp
  · split
    · split <;> simp only <;> omega
    · exact hp
end
end Go.Proofs.Ytbnppmkdhnpdfaa
namespace Go.Proofs.Ytbnppmkdhnpdfaa
open Go.RowKit
set_option linter.unusedVariables false
/-- What the walk is told of a slice of bytes that came in: it is nil; or it leads to a row of 'cap' cells, the numbers 'zs', the first 'len' its elements. -/
def IsRow (w : World) (a : Option Addr) (len cap : Nat) (zs : List Int) : Prop :=
  (a = none ∧ len = 0 ∧ cap = 0 ∧ zs = []) ∨
  ∃ x, a = some x ∧ len ≤ cap ∧ cap ≤ maxLen ∧ zs.length = cap ∧ (∀ i, i < zs.length → w.cell? (x.add i) = some (.int .u8 (zs.getD i 0))) ∧ ∀ n ∈ zs, (Lit.int .u8 n).wf = true
/-- The bytes of such numbers. -/
def bytesOf (zs : List Int) : List UInt8 := zs.map fun z => UInt8.ofNat z.toNat
theorem bytesOf_length (zs : List Int) : (bytesOf zs).length = zs.length := by simp [bytesOf]
theorem wf_u8 {z : Int} (h : (Lit.int .u8 z).wf = true) : 0 ≤ z ∧ z ≤ 255 := by
  simp [Lit.wf] at h
  first | exact h | omega
theorem reads_nil (w : World) : Reads w (.slice none 0 0) [] := by
  intro m
  exact conv_own (w.drewN m) 0 (.slice none 0 0) [] (World.ownsRow_nil _ _ _ _)
end Go.Proofs.Ytbnppmkdhnpdfaa
namespace Go.Proofs.Ytbnppmkdhnpdfaa
open Go.RowKit
set_option linter.unusedVariables false
theorem append_string_at (w : World) (ty : TypeId) (B : Nat) (v : Value) (n : Nat) (xs : List Value) (hown : w.ownsRow B 5 1 v n xs) (s : ByteArray) (hb : n + s.size ≤ 140737488355328) (hB : B ≤ w.heap.size) :
    ∃ v' w', (Builtin.append_ #[30, 9] ty #[v, .string s]).run Try.prog w = .ok v' w' ∧ w'.ownsRow B 5 1 v' (n + s.size) (xs ++ Lib.byteCells s.data.toList) ∧ w.grownBy w' v.ownBlock ∧ Fresh w v.ownBlock v'.ownBlock := by
  obtain ⟨i0, hi, hz0, hz1, hz2⟩ := info_parts info8
  obtain ⟨v', w', hr, h2, h3, h4⟩ := Lib.run_append_own_string (P := Try.prog) w B 30 9 ty 5 i0 Try.underlying30 Try.underlying9 hi hz0 hz1 hz2 v n xs hown s (by unfold maxLen; omega) hb hB
  refine ⟨v', w', hr, h2, h3, ?_⟩
  rcases hown.2 with ⟨rfl, rfl⟩ | ⟨g, cap, cur, rfl, hbg, hg, hnc, hcm, hcs, htake⟩
  · by_cases hs : s.size = 0
    · have := h4.2 ⟨rfl, hs⟩
      subst this
      exact .inl rfl
    · have e := run_append_nil_string (P := Try.prog) w 30 9 ty 5 i0 (.int .u8 0) Try.underlying30 Try.underlying9 hi hz0 s (by omega) (by omega) (by rw [hz2]; omega)
      rw [hr] at e
      injection e with e1 e2
      exact .inr ⟨w.heap.size, by rw [e1]; rfl, Nat.le_refl _⟩
  · by_cases hroom : n + s.size ≤ cap
    · have e := Lib.run_append_room_string (P := Try.prog) w 30 9 ty 5 i0 Try.underlying30 Try.underlying9 hi hz1 g n cap cur hg s hroom (by omega)
      rw [hr] at e
      injection e with e1 e2
      exact .inl (by rw [e1]; rfl)
    · have e := Lib.run_append_grow_string (P := Try.prog) w 30 9 ty 5 i0 (.int .u8 0) Try.underlying30 Try.underlying9 hi hz0 ⟨g, 0, none⟩ n cap xs (by rw [hz1]; exact hown.1) (hown.cells (g := g) rfl) s (by omega) (by omega) (by rw [hz2]; exact growslice_fits (by omega) (by omega))
      rw [hr] at e
      injection e with e1 e2
      exact .inr ⟨w.heap.size, by rw [e1]; rfl, Nat.le_refl _⟩
/-- At the operation, for the walk. -/
theorem wpList_append_string {w : World} {ops : Array Oper} {rest : List Oper} {o : Oper} {a : Act} {Q : Exit → Act → World → Prop} (hgd : o.guard = none) (sl x : Operand)
    (ho : o.op = .call { callee := .builtin .append, args := #[sl, x], argTypes := #[30, 9] })
    (B : Nat) (v : Value) (n : Nat) (xs : List Value) (hs : a.eval sl = v) (hown : w.ownsRow B 5 1 v n xs) (s : ByteArray) (hx : a.eval x = .string s)
    (hb : n + s.size ≤ 140737488355328) (hB : B ≤ w.heap.size)
    (h : ∀ v' w', w'.ownsRow B 5 1 v' (n + s.size) (xs ++ Lib.byteCells s.data.toList) → w.grownBy w' v.ownBlock → Fresh w v.ownBlock v'.ownBlock → wpList Try.prog ops Q rest (a.put o.dst v') w') : wpList Try.prog ops Q (o :: rest) a w := by
  refine wpList_plain hgd fun K hK => ?_
  obtain ⟨v', w', hr, h2, h3, h4⟩ := append_string_at w o.type B v n xs hown s hb hB
  unfold Oper.wp execOp
  simp only [ho, resolve, invoke, builtin, Sem.run_bind, Sem.run_pure, Result.andThen_ok, List.map_toArray, List.map_cons, List.map_nil, hs, hx, hr]
  exact hK _ _ (h v' w' h2 h3 h4)
/-- What is owned is a slice. -/
theorem own_form {w : World} {B : Nat} {e : TypeId} {v : Value} {n : Nat} {xs : List Value} (h : w.ownsRow B e 1 v n xs) : ∃ a m c, v = .slice a m c := by
  rcases h.2 with ⟨rfl, _⟩ | ⟨g, cap, cur, rfl, _⟩
  · exact ⟨_, _, _, rfl⟩
  · exact ⟨_, _, _, rfl⟩
theorem block_kept {wr w1 : World} {T b : Nat} {v : Value} (hh : wr.heap[b]? = some (.cells #[v] T (0, 0))) (hne : v.ownBlock ≠ some b) (hg : wr.grownBy w1 v.ownBlock) : w1.heap[b]? = some (.cells #[v] T (0, 0)) := by
  rw [hg.block b (Array.getElem?_eq_some_iff.1 hh).1 (Ne.symm hne)]
  exact hh
/-- A writer's slice, grown by some bytes and stored back. -/
theorem app_text {T B b : Nat} {wr w1 : World} {v v' : Value} {l news : List UInt8} {n : Nat} (hB : B ≤ b) (hh : wr.heap[b]? = some (.cells #[v] T (0, 0))) (hne : v.ownBlock ≠ some b) (hn : n = (l ++ news).length)
    (hg : wr.grownBy w1 v.ownBlock) (hown1 : w1.ownsRow B 5 1 v' n (Lib.byteCells l ++ Lib.byteCells news)) (fr : Fresh wr v.ownBlock v'.ownBlock) :
    IsW T B b v'.ownBlock (l ++ news) (w1.setCell ⟨b, 0, none⟩ v') ∧ Keeps (fun k => k = b ∨ v.ownBlock = some k) wr (w1.setCell ⟨b, 0, none⟩ v') := by
  have hlt := (Array.getElem?_eq_some_iff.1 hh).1
  have hb1 := block_kept hh hne hg
  have hvb : v'.ownBlock ≠ some b := by
    rcases fr with h | ⟨k, h, hk⟩
    · rw [h]; exact hne
    · rw [h]; intro e; cases e; omega
  refine ⟨⟨hB, hvb, v', ?_, rfl, ?_⟩, Keeps.setCell ((Keeps.refl _ wr).grown hg (fun k hk _ => .inr hk)) (fun _ => .inl rfl) _⟩
  · rw [heap_setCell_same w1 b 0 _ T _ hb1]; rfl
  · subst hn
    rw [Lib.byteCells_append]
    refine ⟨hown1.1, ?_⟩
    rcases hown1.2 with h | ⟨g, c, cur, rfl, hbase, hheap, r⟩
    · exact .inl h
    · refine .inr ⟨g, c, cur, rfl, hbase, ?_, r⟩
      rw [Below.heap_setCell _ _ _ _ (fun e => hvb (by have e' : g = b := e; subst e'; rfl))]
      exact hheap
end Go.Proofs.Ytbnppmkdhnpdfaa
namespace Go.Proofs.Ytbnppmkdhnpdfaa
open Go.RowKit
set_option linter.unusedVariables false
/-- A slice of bytes that came in, with its bytes L: nil, or cells that are there. -/
def ArgB (w : World) (a : Option Addr) (len cap : Nat) (L : List UInt8) : Prop :=
  L.length = len ∧ len ≤ cap ∧ cap ≤ maxLen ∧ ((a = none ∧ len = 0 ∧ cap = 0) ∨ ∃ x, a = some x ∧ ∀ j u, (Lib.byteCells L)[j]? = some u → w.cell? (x.add j) = some u)
theorem ArgB.of_row {w : World} {a : Option Addr} {len cap : Nat} {zs : List Int} (h : IsRow w a len cap zs) : ArgB w a len cap (bytesOf (zs.take len)) := by
  rcases h with ⟨rfl, rfl, rfl, rfl⟩ | ⟨x, rfl, hl, hm, hz, hc, hw⟩
  · exact ⟨rfl, Nat.le_refl _, Nat.zero_le _, .inl ⟨rfl, rfl, rfl⟩⟩
  · have hlen : (bytesOf (zs.take len)).length = len := by rw [bytesOf_length, List.length_take]; omega
    refine ⟨hlen, hl, hm, .inr ⟨x, rfl, fun j u hj => ?_⟩⟩
    have hjl : j < len := by
      have := (List.getElem?_eq_some_iff.1 hj).1
      simpa [Lib.byteCells, hlen] using this
    have hjz : j < zs.length := by omega
    rw [hc j hjz]
    have hz' := wf_u8 (hw zs[j] (List.getElem_mem hjz))
    have e : (Lib.byteCells (bytesOf (zs.take len)))[j]? = some (.int .u8 zs[j]) := by
      have e0 : (bytesOf (zs.take len))[j]? = some (UInt8.ofNat (zs[j]).toNat) := by
        simp [bytesOf, hjl, hjz]
      simp only [Lib.byteCells, List.getElem?_map, e0, Option.map_some]
      rw [UInt8.toNat_ofNat', Nat.mod_eq_of_lt (show (zs[j]).toNat < 2 ^ 8 from by omega)]
      congr 2
      omega
    rw [e] at hj
    rw [← hj]
    simp [hjz]
/-- It stands in later worlds. -/
theorem ArgB.later {w w' : World} {a : Option Addr} {len cap : Nat} {L : List UInt8} (h : ArgB w a len cap L) (bel : Below w.heap.size w w') : ArgB w' a len cap L := by
  obtain ⟨h1, h2, h3, h4⟩ := h
  refine ⟨h1, h2, h3, ?_⟩
  rcases h4 with h | ⟨x, hx, hc⟩
  · exact .inl h
  · refine .inr ⟨x, hx, fun j u hj => ?_⟩
    have hcell := hc j u hj
    rw [← hcell]
    exact bel.cell (World.block_lt_of_cell? w _ hcell)
/-- It is read as its bytes. -/
theorem ArgB.reads {w : World} {a : Option Addr} {len cap : Nat} {L : List UInt8} (h : ArgB w a len cap L) : Reads w (.slice a len cap) L := by
  obtain ⟨h1, _, _, h4⟩ := h
  rcases h4 with ⟨rfl, rfl, rfl⟩ | ⟨x, rfl, hc⟩
  · have : L = [] := List.length_eq_zero_iff.1 h1
    subst this
    exact reads_nil w
  · intro m
    have key := run_convert_bytes_back (P := Try.prog) (w.drewN m) 30 9 5 x cap L Try.underlying30 Try.underlying5 Try.underlying9 (fun j hj => by
      refine hc j _ ?_
      simp [Lib.byteCells, hj])
    rw [h1] at key
    exact key
end Go.Proofs.Ytbnppmkdhnpdfaa
namespace Go.Proofs.Ytbnppmkdhnpdfaa
open Go.RowKit
set_option linter.unusedVariables false
/-- A reader of the code: its bytes, place and error. -/
structure OneR (br : Nat) (s : ByteArray) (l : List UInt8) (p : Nat) (e : Int) (w : World) : Prop where
  code : IsR br s (p : Int) e w
  text : s.data.toList = l
  le : p ≤ l.length
  small : l.length ≤ 1099511627776
theorem OneR.size {br : Nat} {s : ByteArray} {l : List UInt8} {p : Nat} {e : Int} {w : World} (h : OneR br s l p e w) : s.size = l.length := by
  rw [← h.text]; show s.data.size = s.data.toList.length; simp
section
variable {br : Nat} {s : ByteArray} {l : List UInt8} {p : Nat} {e : Int}
theorem one_num (w : World) (most : Int) (h : OneR br s l p e w) :
    Calls Try.prog 56 #[.pointer (some ⟨br, 0, none⟩), .int .i64 most] w fun r w' => r = .returned (.int .i64 (numSt l p e most).1) ∧ IsR br s ((numSt l p e most).2.1 : Int) (numSt l p e most).2.2 w' ∧ Keeps (fun x => x = br) w w' := by
  have hsz := h.size
  by_cases he : e = 0
  · subst he
    have hS : numSt l p 0 most = ((Nm.first (l.drop p) most).1, p + (Nm.first (l.drop p) most).2.1.toNat, (Nm.first (l.drop p) most).2.2) := by simp [numSt]
    have hk := first_parts (l.drop p) most
    rw [hS]
    have := rnum_any br s p most (Nm.first (l.drop p) most).1 (Nm.first (l.drop p) most).2.1 (Nm.first (l.drop p) most).2.2 w h.code (by have := h.le; omega) (by have := h.small; omega) (by rw [h.text])
    simp only
    rw [show ((p + (Nm.first (l.drop p) most).2.1.toNat : Nat) : Int) = (p : Int) + (Nm.first (l.drop p) most).2.1 from by omega]
    exact this
  · have hS : numSt l p e most = (0, p, e) := by simp [numSt, he]
    rw [hS]
    exact (rnum_broken br s (p : Int) e most w h.code he).mono (by rintro r w' ⟨rfl, rfl⟩; exact ⟨rfl, h.code, Keeps.refl _ _⟩)
theorem one_text (w : World) (most : Int) (h : OneR br s l p e w) :
    Calls Try.prog 92 #[.pointer (some ⟨br, 0, none⟩), .int .i64 most] w fun r w' => r = .returned (.string ⟨(textSt l p e most).1.toArray⟩) ∧ IsR br s ((textSt l p e most).2.1 : Int) (textSt l p e most).2.2 w' ∧ Keeps (fun x => x = br) w w' := by
  have hsz := h.size
  have hle := h.le
  have hsm := h.small
  by_cases he : e = 0
  · subst he
    rcases textSt_cases l p most hle with ⟨e, he, hF, hS⟩ | ⟨n, k, hF, hk1, hpk, hn, hS⟩ | ⟨n, k, hF, hk1, hpk, hS⟩
    · rw [hS]
      exact rtext_bad br s p most e w h.code (by omega) (by omega) (by rw [h.text]; exact hF)
    · rw [hS]
      exact rtext_short br s p most n k w h.code (by omega) (by omega) (by rw [h.text]; exact hF) (by omega) (by rw [hsz]; exact hn)
    · rw [hS]
      have := rtext_ok br s p most n k w h.code (by omega) (by omega) (by rw [h.text]; exact hF) (by omega)
      rw [h.text] at this
      simp only
      rw [show ((p + k + n : Nat) : Int) = (p : Int) + (k : Int) + (n : Int) from by omega]
      exact this
  · have hS : textSt l p e most = ([], p, e) := by simp [textSt, he]
    rw [hS]
    exact rtext_broken br s p e most w h.code he (by omega) (by omega)
theorem one_flag (w : World) (h : OneR br s l p e w) :
    Calls Try.prog 93 #[.pointer (some ⟨br, 0, none⟩)] w fun r w' => r = .returned (.bool (flagSt l p e).1) ∧ IsR br s ((flagSt l p e).2.1 : Int) (flagSt l p e).2.2 w' ∧ Keeps (fun x => x = br) w w' := by
  have hsz := h.size
  have hle := h.le
  have hsm := h.small
  by_cases hp : p < l.length
  · have hc : s[p]'(by omega) = l[p] := by
      have e1 : s.data.toList[p]'(by rw [h.text]; exact hp) = l[p] := by simp only [h.text]
      rw [← e1]
      rfl
    by_cases he : e = 0
    · subst he
      by_cases h1 : 1 < l[p].toNat
      · have hS : flagSt l p 0 = (false, p, 11) := by simp [flagSt, hp, h1]
        rw [hS]
        exact rflag_form br s p 0 l[p] w h.code (by omega) hc h1 (by omega)
      · have hS : flagSt l p 0 = (((l[p].toNat : Int) == 1), p + 1, 0) := by simp only [flagSt, ne_eq, not_true_eq_false, if_false, hp, dif_pos]; rw [if_neg h1]
        rw [hS]
        exact rflag_ok br s p l[p] w h.code (by omega) hc h1 (by omega)
    · have hS : flagSt l p e = (false, p, e) := by simp [flagSt, he]
      rw [hS]
      by_cases h1 : 1 < l[p].toNat
      · have := rflag_form br s p e l[p] w h.code (by omega) hc h1 (by omega)
        rw [show failOf e 11 = e from if_neg he] at this
        exact this
      · exact rflag_broken br s p e l[p] w h.code he (by omega) hc h1 (by omega)
  · have := rflag_end br s p e w h.code (by omega) (by omega)
    by_cases he : e = 0
    · subst he
      have hS : flagSt l p 0 = (false, p, 10) := by simp [flagSt, hp]
      rw [hS]
      exact this
    · have hS : flagSt l p e = (false, p, e) := by simp [flagSt, he]
      rw [hS]
      rw [show failOf e 10 = e from if_neg he] at this
      exact this
end
end Go.Proofs.Ytbnppmkdhnpdfaa

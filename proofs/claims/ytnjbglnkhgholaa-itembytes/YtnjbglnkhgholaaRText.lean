/-
  Text of the code's reader: broken, it answers nothing and stays; else what the bytes at its place say (textOf).
-/
import Derived.Test.YtnjbglnkhgholaaRNum
namespace Go.Proofs.Ytnjbglnkhgholaa
open Go.RowKit
set_option linter.unusedVariables false

/-- The text that bytes begin with: it, how many bytes it takes with its number, what is wrong. -/
def textOf (l : List UInt8) (most : Int) : List UInt8 × Int × Int :=
  if (Nm.first l most).2.2 ≠ 0 then ([], 0, (Nm.first l most).2.2)
  else if (l.length : Int) - (Nm.first l most).2.1 < (Nm.first l most).1 then ([], 0, 10)
  else ((l.drop (Nm.first l most).2.1.toNat).take (Nm.first l most).1.toNat, (Nm.first l most).2.1 + (Nm.first l most).1, 0)

theorem extract_part (s : ByteArray) (a n : Nat) (h : a + n ≤ s.size) : s.extract a (a + n) = ⟨((s.data.toList.drop a).take n).toArray⟩ := by
  apply ByteArray.ext
  rw [ByteArray.data_extract]
  apply Array.ext'
  rw [Array.toList_extract, List.extract_eq_take_drop]
  simp

theorem extract_none (s : ByteArray) (a : Nat) : s.extract a a = ⟨#[]⟩ := by
  apply ByteArray.ext
  rw [ByteArray.data_extract]
  simp
  omega

set_option maxHeartbeats 1600000 in
set_option maxRecDepth 100000 in
theorem rtext_broken (b : Nat) (s : ByteArray) (p : Nat) (e most : Int) (w : World) (h : IsR b s (p : Int) e w) (he : e ≠ 0) (hp : p ≤ s.size) (hs : s.size ≤ 1099511627776) :
    Calls Try.prog 49 #[.pointer (some ⟨b, 0, none⟩), .int .i64 most] w fun r w' => r = .returned (.string ⟨#[]⟩) ∧ IsR b s (p : Int) e w' ∧ Keeps (fun x => x = b) w w' := by
  have h0 := h.c0
  have h1 := h.c1
  have hf1 := h.f1
  have hp0 : (0 : Int) ≤ (p : Int) := by omega
  have hp1 : (p : Int) ≤ (s.size : Int) := by omega
  have H := aside h
  clear h
  go_enter Try.func49, Try.ntmps49
  go_wp2_with fail
  refine (rnum_broken b s (p : Int) e most _ H.out he).mono ?_
  rintro r w1 ⟨rfl, rfl⟩
  go_wp2_with fail
  refine (rleft_any b s (p : Int) e _ H.out hp0 hp1 hs).mono ?_
  rintro r w2 ⟨rfl, nq, rfl⟩
  go_wp2_with fail
  go_quiet (fail)
  go_wp2
  go_ret
  exact ⟨rfl, H.out.set1 (p : Int), ((Keeps.refl (fun x => x = b) w1).setCell (p := ⟨b, 1, none⟩) (fun _ => rfl) _).trans ⟨rfl, rfl, rfl, Nat.le_refl _, fun _ _ _ => rfl⟩⟩

/-- What bytes begin with is no number, or one that is too big. -/
theorem textOf_bad {l : List UInt8} {most e : Int} (h : Nm.first l most = (0, 0, e)) (he : e ≠ 0) : textOf l most = ([], 0, e) := by
  unfold textOf; rw [h]; simp [he]
theorem textOf_short {l : List UInt8} {most n k : Int} (h : Nm.first l most = (n, k, 0)) (hn : (l.length : Int) - k < n) : textOf l most = ([], 0, 10) := by
  unfold textOf; rw [h]; simp [hn]
theorem textOf_ok {l : List UInt8} {most n k : Int} (h : Nm.first l most = (n, k, 0)) (hn : ¬ (l.length : Int) - k < n) : textOf l most = ((l.drop k.toNat).take n.toNat, k + n, 0) := by
  unfold textOf; rw [h]; simp only [ne_eq, not_true_eq_false, if_false]; rw [if_neg hn]

set_option maxHeartbeats 1600000 in
set_option maxRecDepth 100000 in
theorem rtext_bad (b : Nat) (s : ByteArray) (p : Nat) (most e : Int) (w : World) (h : IsR b s (p : Int) 0 w) (hp : p ≤ s.size) (hs : s.size ≤ 1099511627776) (hF : Nm.first (s.data.toList.drop p) most = (0, 0, e)) :
    Calls Try.prog 49 #[.pointer (some ⟨b, 0, none⟩), .int .i64 most] w fun r w' => r = .returned (.string ⟨#[]⟩) ∧ IsR b s (p : Int) e w' ∧ Keeps (fun x => x = b) w w' := by
  have h1 := h.c1
  have hp0 : (0 : Int) ≤ (p : Int) := by omega
  have hp1 : (p : Int) ≤ (s.size : Int) := by omega
  have H := aside h
  have HF := aside hF
  clear h hF
  go_enter Try.func49, Try.ntmps49
  go_wp2_with fail
  refine (rnum_any b s p most 0 0 e _ H.out hp hs HF.out).mono ?_
  rintro r w1 ⟨rfl, hr, hk⟩
  rw [show (p : Int) + 0 = (p : Int) from by omega] at hr
  have h10 := hr.c0
  have h11 := hr.c1
  have hf11 := hr.f1
  have HR := aside hr
  clear hr
  go_wp2_with fail
  refine (rleft_any b s (p : Int) e _ HR.out hp0 hp1 hs).mono ?_
  rintro r w2 ⟨rfl, nq, rfl⟩
  go_wp2_with fail
  go_quiet (fail)
  go_wp2
  go_ret
  exact ⟨rfl, HR.out.set1 (p : Int), hk.trans (((Keeps.refl (fun x => x = b) w1).setCell (p := ⟨b, 1, none⟩) (fun _ => rfl) _).trans ⟨rfl, rfl, rfl, Nat.le_refl _, fun _ _ _ => rfl⟩)⟩

set_option maxHeartbeats 1600000 in
set_option maxRecDepth 100000 in
theorem rtext_short (b : Nat) (s : ByteArray) (p : Nat) (most : Int) (n k : Nat) (w : World) (h : IsR b s (p : Int) 0 w) (hp : p ≤ s.size) (hs : s.size ≤ 1099511627776) (hF : Nm.first (s.data.toList.drop p) most = ((n : Int), (k : Int), 0)) (hpk : p + k ≤ s.size) (hn : (s.size : Int) - ((p : Int) + (k : Int)) < (n : Int)) :
    Calls Try.prog 49 #[.pointer (some ⟨b, 0, none⟩), .int .i64 most] w fun r w' => r = .returned (.string ⟨#[]⟩) ∧ IsR b s (p : Int) 10 w' ∧ Keeps (fun x => x = b) w w' := by
  have h1 := h.c1
  have hp0 : (0 : Int) ≤ (p : Int) + (k : Int) := by omega
  have hp1 : (p : Int) + (k : Int) ≤ (s.size : Int) := by omega
  have H := aside h
  have HF := aside hF
  clear h hF
  go_enter Try.func49, Try.ntmps49
  go_wp2_with fail
  refine (rnum_any b s p most n k 0 _ H.out hp hs HF.out).mono ?_
  rintro r w1 ⟨rfl, hr, hk⟩
  have h11 := hr.c1
  have hf11 := hr.f1
  have HR := aside hr
  clear hr
  go_wp2_with fail
  refine (rleft_any b s ((p : Int) + (k : Int)) 0 _ HR.out hp0 hp1 hs).mono ?_
  rintro r w2 ⟨rfl, nq, rfl⟩
  go_wp2_with fail
  refine (rfail_any b s (p : Int) 0 10 _ ?hh).mono ?_
  case hh => exact HR.out.set1 (p : Int)
  rintro r w3 ⟨rfl, hr3, hk3⟩
  go_wp2
  go_ret
  refine ⟨rfl, by simpa [failOf] using hr3, hk.trans (Keeps.trans ?_ hk3)⟩
  exact (((Keeps.refl (fun x => x = b) w1).drewN _).setCell (p := ⟨b, 1, none⟩) (fun _ => rfl) _)

set_option maxHeartbeats 1600000 in
set_option maxRecDepth 100000 in
theorem rtext_ok (b : Nat) (s : ByteArray) (p : Nat) (most : Int) (n k : Nat) (w : World) (h : IsR b s (p : Int) 0 w) (hp : p ≤ s.size) (hs : s.size ≤ 1099511627776) (hF : Nm.first (s.data.toList.drop p) most = ((n : Int), (k : Int), 0)) (hpk : p + k + n ≤ s.size) :
    Calls Try.prog 49 #[.pointer (some ⟨b, 0, none⟩), .int .i64 most] w fun r w' => r = .returned (.string ⟨((s.data.toList.drop (p + k)).take n).toArray⟩) ∧ IsR b s ((p : Int) + (k : Int) + (n : Int)) 0 w' ∧ Keeps (fun x => x = b) w w' := by
  have h1 := h.c1
  have hp0 : (0 : Int) ≤ (p : Int) + (k : Int) := by omega
  have hp1 : (p : Int) + (k : Int) ≤ (s.size : Int) := by omega
  have hp2 : (p : Int) + (k : Int) + (n : Int) ≤ (s.size : Int) := by omega
  have hn : ¬ (s.size : Int) - ((p : Int) + (k : Int)) < (n : Int) := by omega
  have HX := aside (extract_part s (p + k) n (by omega))
  have H := aside h
  have HF := aside hF
  clear h hF
  go_enter Try.func49, Try.ntmps49
  go_wp2_with fail
  refine (rnum_any b s p most n k 0 _ H.out hp hs HF.out).mono ?_
  rintro r w1 ⟨rfl, hr, hk⟩
  have h10 := hr.c0
  have h11 := hr.c1
  have hf11 := hr.f1
  have HR := aside hr
  clear hr
  go_wp2_with fail
  refine (rleft_any b s ((p : Int) + (k : Int)) 0 _ HR.out hp0 hp1 hs).mono ?_
  rintro r w2 ⟨rfl, nq, rfl⟩
  go_wp2_with fail
  go_quiet (fail)
  go_wp2
  go_ret
  refine ⟨?_, HR.out.set1 _, hk.trans (((Keeps.refl (fun x => x = b) w1).setCell (p := ⟨b, 1, none⟩) (fun _ => rfl) _).trans ⟨rfl, rfl, rfl, Nat.le_refl _, fun _ _ _ => rfl⟩)⟩
  show Ending.returned (Value.string (s.extract (p + k) (p + k + n))) = _
  rw [HX.out]

end Go.Proofs.Ytnjbglnkhgholaa

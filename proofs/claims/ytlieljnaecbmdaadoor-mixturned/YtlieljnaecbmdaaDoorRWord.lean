/-
  Word of the code's reader: broken or with too few bytes left, it answers 0 and stays; else the number of the eight bytes at its place, the highest first.
-/
import Derived.Test.YtlieljnaecbmdaaDoorRd
namespace Go.Proofs.YtlieljnaecbmdaaDoor
open Go.RowKit
set_option linter.unusedVariables false

/-- Bytes as one number, the highest first. -/
def valB (l : List UInt8) : Nat := l.foldl (fun a c => a * 256 + c.toNat) 0

theorem valB_snoc (l : List UInt8) (c : UInt8) : valB (l ++ [c]) = valB l * 256 + c.toNat := by simp [valB]

theorem valB_lt (l : List UInt8) : valB l < 256 ^ l.length := by
  suffices h : ∀ (l : List UInt8) (a n : Nat), a < 256 ^ n → l.foldl (fun a c => a * 256 + c.toNat) a < 256 ^ (n + l.length) by
    simpa [valB] using h l 0 0 (by simp)
  intro l
  induction l with
  | nil => intro a n h; simpa using h
  | cons c r ih =>
    intro a n h
    simp only [List.foldl_cons, List.length_cons]
    have := ih (a * 256 + c.toNat) (n + 1) (by have := c.toNat_lt; rw [Nat.pow_succ]; omega)
    rwa [show n + (r.length + 1) = n + 1 + r.length from by omega]

set_option maxHeartbeats 1600000 in
set_option maxRecDepth 100000 in
/-- Too few bytes are left: broken before or now. -/
theorem rword_short (b : Nat) (s : ByteArray) (p : Nat) (e : Int) (w : World) (h : IsR b s (p : Int) e w) (hp : p ≤ s.size) (h8 : s.size < p + 8) (hs : s.size ≤ 1099511627776) :
    Calls Tryd.prog 33 #[.pointer (some ⟨b, 0, none⟩)] w fun r w' => r = .returned (.int .u64 0) ∧ IsR b s (p : Int) (failOf e 10) w' ∧ Keeps (fun x => x = b) w w' := by
  have H := aside h
  have hl : (s.size : Int) - (p : Int) < 8 := by omega
  have hne : (failOf e 10 != 0) = true := by
    unfold failOf
    split
    · rfl
    · rw [bne_iff_ne]; assumption
  clear h
  go_enter Tryd.func33, Tryd.ntmps33
  go_wp2_with fail
  refine (rleft_any b s (p : Int) e _ H.out (by omega) (by omega) hs).mono ?_
  rintro r w1 ⟨rfl, nq, rfl⟩
  go_wp2_with fail
  refine (rfail_any b s (p : Int) e 10 _ (by exact H.out)).mono ?_
  rintro r w2 ⟨rfl, hr, hk⟩
  have h2 := hr.c2
  have HR := aside hr
  clear hr
  go_wp2
  go_ret
  exact ⟨rfl, HR.out, ((Keeps.refl (fun x => x = b) w).drewN _).trans hk⟩

set_option maxHeartbeats 1600000 in
set_option maxRecDepth 100000 in
/-- Broken before, with bytes enough. -/
theorem rword_broken (b : Nat) (s : ByteArray) (p : Nat) (e : Int) (w : World) (h : IsR b s (p : Int) e w) (he : e ≠ 0) (h8 : p + 8 ≤ s.size) (hs : s.size ≤ 1099511627776) :
    Calls Tryd.prog 33 #[.pointer (some ⟨b, 0, none⟩)] w fun r w' => r = .returned (.int .u64 0) ∧ IsR b s (p : Int) e w' ∧ Keeps (fun x => x = b) w w' := by
  have H := aside h
  have hl : ¬ (s.size : Int) - (p : Int) < 8 := by omega
  have hne : (e != 0) = true := by rw [bne_iff_ne]; exact he
  have h2 := h.c2
  clear h he
  go_enter Tryd.func33, Tryd.ntmps33
  go_wp2_with fail
  refine (rleft_any b s (p : Int) e _ H.out (by omega) (by omega) hs).mono ?_
  rintro r w1 ⟨rfl, nq, rfl⟩
  go_wp2
  go_ret
  exact ⟨rfl, H.out, ⟨rfl, rfl, rfl, Nat.le_refl _, fun _ _ _ => rfl⟩⟩

def RWordRel (b : Nat) (s : ByteArray) (p : Nat) (w : World) (u i : Value) (wr : World) : Prop :=
  ∃ j acc : Nat, u = .int .u64 (acc : Int) ∧ i = .int .i64 (j : Int) ∧ j ≤ 8 ∧ acc = valB ((s.data.toList.drop p).take j) ∧ IsR b s ((p : Int) + (j : Int)) 0 wr ∧ Keeps (fun x => x = b) w wr

set_option maxHeartbeats 1600000 in
set_option maxRecDepth 100000 in
theorem rword_ok (b : Nat) (s : ByteArray) (p : Nat) (w : World) (h : IsR b s (p : Int) 0 w) (h8 : p + 8 ≤ s.size) (hs : s.size ≤ 1099511627776) :
    Calls Tryd.prog 33 #[.pointer (some ⟨b, 0, none⟩)] w fun r w' => r = .returned (.int .u64 (valB ((s.data.toList.drop p).take 8) : Int)) ∧ IsR b s ((p : Int) + 8) 0 w' ∧ Keeps (fun x => x = b) w w' := by
  have H := aside h
  have hl : ¬ (s.size : Int) - (p : Int) < 8 := by omega
  have h2 := h.c2
  clear h
  go_enter Tryd.func33, Tryd.ntmps33
  go_wp2_with fail
  refine (rleft_any b s (p : Int) 0 _ H.out (by omega) (by omega) hs).mono ?_
  rintro r w1 ⟨rfl, nq, rfl⟩
  go_wp2
  go_loopw [3, 14] (fun u i wr => RWordRel b s p w u i wr) (fun _ i _ => 8 - (intOf i).toNat)
  case atStart => exact ⟨0, 0, rfl, rfl, by omega, rfl, by rw [show (p : Int) + ((0 : Nat) : Int) = (p : Int) from by omega]; exact H.out, ⟨rfl, rfl, rfl, Nat.le_refl _, fun _ _ _ => rfl⟩⟩
  case round =>
    obtain ⟨j, acc, rfl, rfl, hj8, hacc, hr, hk⟩ := hrel
    have hj8' : (j : Int) ≤ 8 := by omega
    by_cases hlt : (j : Int) < 8
    · have hpj : p + j < s.size := by omega
      have hpj' : (p : Int) + (j : Int) < (s.size : Int) := by omega
      have hix := idx_str' s (p + j) hpj ((p : Int) + (j : Int)) (by omega)
      have hdj : (s.data.toList.drop p).take (j + 1) = (s.data.toList.drop p).take j ++ [s[p + j]] := by
        rw [List.take_succ_eq_append_getElem (by simp; omega)]
        simp
        rfl
      obtain ⟨c, hc⟩ : ∃ c, c = s[p + j] := ⟨_, rfl⟩
      rw [← hc] at hix hdj
      clear hc
      have hb := c.toNat_lt
      have hb' : (c.toNat : Int) < 256 := by omega
      have hva := valB_lt ((s.data.toList.drop p).take j)
      have hlj : ((s.data.toList.drop p).take j).length ≤ j := List.length_take_le _ _
      have hacc56 : acc < 72057594037927936 := by
        rw [hacc]
        have h7 : 256 ^ ((s.data.toList.drop p).take j).length ≤ 256 ^ 7 := Nat.pow_le_pow_right (by omega) (by omega)
        have h77 : 256 ^ 7 = 72057594037927936 := by decide
        omega
      have hacc' : (acc : Int) < 72057594037927936 := by omega
      have HJ := aside hdj
      have HA := aside hacc
      have HR := aside hr
      have h0 := hr.c0
      have h1 := hr.c1
      have hf1 := hr.f1
      clear hdj hacc hr hva hlj hacc56 hb hpj hj8 H
      go_wp2_with fail
      go_quiet (fail)
      go_wp2
      go_roundw
      case rel => exact ⟨j + 1, acc * 256 + c.toNat, by go_num, by go_num, by omega, by rw [HJ.out, valB_snoc, ← HA.out], by rw [show (p : Int) + ((j + 1 : Nat) : Int) = (p : Int) + (j : Int) + 1 from by omega]; exact HR.out.set1 _, hk.trans (((Keeps.refl (fun x => x = b) wr).drewN _).setCell (p := ⟨b, 1, none⟩) (fun _ => rfl) _)⟩
      case measure => simp [intOf]; omega
    · have hj : j = 8 := by omega
      subst hj
      have HA := aside hacc
      have HR := aside hr
      clear hacc hr
      go_wp2
      go_ret
      exact ⟨by rw [← HA.out]; rfl, HR.out, hk⟩

end Go.Proofs.YtlieljnaecbmdaaDoor

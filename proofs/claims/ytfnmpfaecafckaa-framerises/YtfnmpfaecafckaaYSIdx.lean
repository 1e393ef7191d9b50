/-
  slices.ContainsFunc of Empty over every slice of ranges.
-/
import Derived.Test.YtfnmpfaecafckaaYSNb
import Derived.Test.YtfnmpfaecafckaaYSMeet
namespace Go.Proofs.Ytfnmpfaecafckaa
open Go.RowKit
/-- Is one of the first n ranges empty? -/
def anyE (T : Nat → Rg) (n : Nat) : Bool := (List.range n).any fun i => (T i).emp

theorem anyE_false {T : Nat → Rg} {n : Nat} (h : ∀ j, j < n → (T j).emp = false) : anyE T n = false := by
  simp only [anyE, List.any_eq_false, List.mem_range]
  intro j hj; simp [h j hj]

theorem anyE_true {T : Nat → Rg} {n j : Nat} (hj : j < n) (h : (T j).emp = true) : anyE T n = true := by
  simp only [anyE, List.any_eq_true, List.mem_range]
  exact ⟨j, hj, h⟩

set_option maxRecDepth 100000 in
set_option maxHeartbeats 2000000 in
theorem idx_any (a : Option Addr) (len cap : Nat) (T : Nat → Rg) (w : World) (h : RgsIn w.heap.size w a len cap T) :
    Calls Try.prog 59 #[.slice a len cap, .func (.func 48) #[] #[]] w fun e w' => ∃ i : Int, e = .returned (.int .i64 i) ∧ decide (0 ≤ i) = anyE T len ∧ Below w.heap.size w w' := by
  obtain ⟨hlc, hcm, hh⟩ := h
  go_enter Try.func59, Try.ntmps59
  go_wp2
  go_loopw [8] (fun i wr => ∃ k : Nat, k ≤ len ∧ i = .int .i64 (k : Int) ∧ Hid (∀ j, j < k → (T j).emp = false) ∧ Below w.heap.size w wr) (fun i _ => len - (intOf i).toNat)
  case atStart => exact ⟨0, Nat.zero_le _, rfl, fun j hj => by omega, Below.refl _ _⟩
  case round =>
    obtain ⟨k, hk, rfl, hall, hnx⟩ := hrel
    by_cases hlt : (k : Int) < (len : Int)
    · rcases hh with hh | ⟨b, off, rfl, hb, hc⟩
      · omega
      · obtain ⟨c0, c1, c2⟩ := hc k (by omega)
        have c0' := (hnx.cell (p := ⟨b, off + k * 3, none⟩) hb).trans c0
        have c1' := (hnx.cell (p := ⟨b, off + k * 3 + 1, none⟩) hb).trans c1
        have c2' := (hnx.cell (p := ⟨b, off + k * 3 + 2, none⟩) hb).trans c2
        clear hc c0 c1 c2
        have hk0 : (0 : Int) ≤ (k : Int) := by omega
        cases he : Rg.emp ⟨(T k).lo, (T k).hi, (T k).op⟩
        · have CE := aside (fun w => empty_at he w)
          have HE := aside (show (T k).emp = false from he)
          clear he
          go_wp2_with fail
          refine (CE.out _).mono ?_
          rintro e w1 ⟨rfl, b1⟩
          have hn2 := hnx.trans (b1.mono hnx.size)
          clear c0' c1' c2' CE b1
          go_wp2
          go_roundw
          case rel => exact ⟨k + 1, by omega, by go_num, fun j hj => by
            by_cases e : j = k
            · rw [e]; exact HE.out
            · exact hall.out j (by omega), hn2⟩
          case measure => simp [intOf]; omega
        · have CE := aside (fun w => empty_at he w)
          have HE := aside (show (T k).emp = true from he)
          clear he
          go_wp2_with fail
          refine (CE.out _).mono ?_
          rintro e w1 ⟨rfl, b1⟩
          have hn2 := hnx.trans (b1.mono hnx.size)
          clear c0' c1' c2' CE b1
          go_wp2
          go_ret
          exact ⟨(k : Int), rfl, by rw [anyE_true (j := k) (by omega) HE.out]; exact decide_eq_true hk0, hn2⟩
    · obtain rfl : len = k := by omega
      go_wp2
      go_ret
      exact ⟨-1, rfl, by rw [anyE_false hall.out]; rfl, hnx⟩

set_option maxRecDepth 100000 in
set_option maxHeartbeats 1000000 in
theorem contains_any (a : Option Addr) (len cap : Nat) (T : Nat → Rg) (w : World) (h : RgsIn w.heap.size w a len cap T) :
    Calls Try.prog 47 #[.slice a len cap, .func (.func 48) #[] #[]] w fun e w' => e = .returned (.bool (anyE T len)) ∧ Below w.heap.size w w' := by
  have C := aside (fun w h => idx_any a len cap T w h)
  have H := aside h
  clear h
  go_enter Try.func47, Try.ntmps47
  go_wp2_with fail
  refine (C.out _ H.out).mono ?_
  rintro e w1 ⟨i, rfl, hi, b1⟩
  have HI := aside hi
  clear hi C H
  go_wp2
  go_ret
  exact ⟨ret_bool HI.out, b1⟩

end Go.Proofs.Ytfnmpfaecafckaa

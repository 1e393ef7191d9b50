/-
  A slice of steps that came in as an argument; what all its steps lay down; the bound of the law (beyond).
-/
import Derived.Test.YtccbmppmnddkpaaWStep
namespace Go.Proofs.Ytccbmppmnddkpaa
open Go.RowKit
set_option linter.unusedVariables false

/-- A slice of steps: none, or the steps T 0, T 1 .. one behind the other, five cells each. -/
def StepsAt (w : World) (a : Option Addr) (len cap : Nat) (T : Nat → Stp) : Prop :=
  len ≤ cap ∧ cap ≤ maxLen ∧ (len = 0 ∨ ∃ blk off, a = some ⟨blk, off, none⟩ ∧ blk < w.heap.size ∧ ∀ i, i < len →
    (w.cell? ⟨blk, off + i * 5, none⟩ = some (.int .i64 (T i).kind) ∧ w.cell? ⟨blk, off + i * 5 + 1, none⟩ = some (.int .i64 (T i).n) ∧ w.cell? ⟨blk, off + i * 5 + 2, none⟩ = some (.string (T i).s) ∧
      w.cell? ⟨blk, off + i * 5 + 3, none⟩ = some (.int .u64 ((T i).u : Int)) ∧ w.cell? ⟨blk, off + i * 5 + 4, none⟩ = some (.bool (T i).is)) ∧
    (-9223372036854775808 ≤ (T i).n ∧ (T i).n ≤ 9223372036854775807 ∧ (T i).s.size ≤ 140737488351232 ∧ (T i).u < 18446744073709551616))

/-- The lengths of the first n texts. -/
def tot (T : Nat → Stp) : Nat → Nat
  | 0 => 0
  | n + 1 => tot T n + (T n).s.size

/-- What the first n steps lay down. -/
def allB (T : Nat → Stp) : Nat → List UInt8
  | 0 => []
  | n + 1 => allB T n ++ (T n).bytes

theorem bytes_len (t : Stp) : t.bytes.length ≤ 9 + t.s.size := by
  have h1 := Nm.enc_length 8 (up t.n)
  have h2 := Nm.enc_length 8 t.s.size
  have hl : t.s.data.toList.length = t.s.size := by show t.s.data.toList.length = t.s.data.size; simp
  unfold Stp.bytes
  split
  · omega
  · split
    · rw [List.length_append]; omega
    · split
      · have : (wordB t.u).length = 8 := rfl
        omega
      · split
        · have : (flagB t.is).length = 1 := rfl
          omega
        · simp

theorem allB_len (T : Nat → Stp) : ∀ n, (allB T n).length ≤ 9 * n + tot T n
  | 0 => by simp [allB, tot]
  | n + 1 => by
    have ih := allB_len T n
    have := bytes_len (T n)
    simp only [allB, tot, List.length_append]
    omega

theorem tot_mono (T : Nat → Stp) : ∀ (n m : Nat), n ≤ m → tot T n ≤ tot T m
  | n, 0, h => by have : n = 0 := by omega
                  subst this; exact Nat.le_refl _
  | n, m + 1, h => by
    by_cases e : n = m + 1
    · subst e; exact Nat.le_refl _
    · have := tot_mono T n m (by omega)
      simp only [tot]; omega

theorem tot_one (T : Nat → Stp) (i n : Nat) (h : i < n) : (T i).s.size ≤ tot T n := by
  have := tot_mono T (i + 1) n h
  simp only [tot] at this
  omega

/-- The bound is passed. -/
def beyondB (T : Nat → Stp) (len : Nat) : Bool := decide (2147483647 < len + tot T len)

set_option maxHeartbeats 1600000 in
set_option maxRecDepth 100000 in
/-- beyond reads alone; where it says no, the lengths together keep the bound. -/
theorem beyond_any (a : Option Addr) (len cap : Nat) (T : Nat → Stp) (w : World) (h : StepsAt w a len cap T) :
    Calls Try.prog 8 #[.slice a len cap] w fun e w' => e = .returned (.bool (beyondB T len)) ∧ w' = w := by
  obtain ⟨hlc, hcm, h⟩ := h
  unfold maxLen at hcm
  go_enter Try.func8, Try.ntmps8
  go_wp2
  go_loop [3, 4] (fun n i => ∃ k m : Nat, n = .int .i64 (m : Int) ∧ i = .int .i64 (k : Int) ∧ k ≤ len ∧ m = len + tot T k) (fun _ i => len - (intOf i).toNat)
  case atStart => exact ⟨0, len, rfl, rfl, Nat.zero_le _, rfl⟩
  case round =>
    obtain ⟨k, m, rfl, rfl, hk, hm⟩ := hrel
    have HM := aside hm
    by_cases hlt : (k : Int) < (len : Int)
    · rcases h with h | ⟨blk, off, rfl, hb, hc⟩
      · omega
      · obtain ⟨⟨c0, c1, c2, c3, c4⟩, n0, n1, ns, nu⟩ := hc k (by omega)
        have hs : ((T k).s.size : Int) ≤ 140737488351232 := by omega
        clear hc c0 c1 c3 c4 n0 n1 nu hm
        by_cases hm31 : (m : Int) ≤ 2147483647
        · go_wp2
          go_round
          case rel => exact ⟨k + 1, m + (T k).s.size, by go_num, by go_num, by omega, by rw [HM.out]; simp only [tot]; omega⟩
          case measure => simp [intOf]; omega
        · have hbig : ¬ (m : Int) ≤ 2147483647 := hm31
          have hgt : (2147483647 : Int) < (m : Int) := by omega
          have HB : Hid (beyondB T len = true) := by
            show beyondB T len = true
            have h1 := HM.out
            have h2 := tot_mono T k len hk
            simp only [beyondB, decide_eq_true_eq]
            omega
          go_wp2
          go_ret
          exact ⟨by rw [HB.out]; rfl, rfl⟩
    · have hkl : k = len := by omega
      subst hkl
      clear hm
      have HB : Hid (beyondB T k = decide ((2147483647 : Int) < (m : Int))) := by
        show beyondB T k = _
        have h1 := HM.out
        simp only [beyondB]
        rw [Bool.eq_iff_iff]
        simp only [decide_eq_true_eq]
        omega
      go_wp2
      go_ret
      exact ⟨by rw [HB.out]; rfl, rfl⟩

end Go.Proofs.Ytccbmppmnddkpaa

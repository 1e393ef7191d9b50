/-
  Small calls of the statements: among, Zero, Bound, and the making of iterators.
-/
import Derived.Test.YtnlmlhoddchgbaaTgDM
import Derived.Test.YtnlmlhoddchgbaaTrShown
import Derived.Laws.EntriesVeiled
namespace Go.Proofs.Ytnlmlhoddchgbaa
open Go.RowKit
set_option linter.unusedVariables false

/-- A place among n. -/
def amongI (i n : Int) : Int := if n < 1 then 0 else i % n

theorem amongI_lt {i n : Int} (h : 1 ≤ n) : 0 ≤ amongI i n ∧ amongI i n < n := by
  unfold amongI
  rw [if_neg (by omega)]
  exact ⟨Int.emod_nonneg _ (by omega), Int.emod_lt_of_pos _ (by omega)⟩

set_option maxHeartbeats 1600000 in
theorem among_any (i n : Int) (w : World) (h1 : -9223372036854775808 ≤ i) (h2 : i ≤ 9223372036854775807) (hn : n ≤ 4611686018427387904) :
    Calls Try.prog 16 #[.int .i64 i, .int .i64 n] w fun e w' => e = .returned (.int .i64 (amongI i n)) ∧ w' = w := by
  by_cases q : n < 1
  · rw [show amongI i n = 0 from by unfold amongI; rw [if_pos q]]
    clear h1 h2 hn
    go_enter Try.func16, Try.ntmps16
    go_wp2
    go_ret
    exact ⟨rfl, rfl⟩
  · have e0 : amongI i n = i % n := by unfold amongI; rw [if_neg q]
    have hz : ¬ n = 0 := by omega
    by_cases q2 : i.tmod n < 0
    · have e1 : wrap64 (i.tmod n + n) = i % n := by
        have a1 := Int.tmod_eq_emod (a := i) (b := n)
        have a2 := Int.emod_nonneg i hz
        have a3 := Int.emod_lt_of_pos i (show 0 < n from by omega)
        unfold wrap64
        split at a1 <;> omega
      rw [e0, ← e1]
      clear e0 e1 h1 h2 hn
      go_enter Try.func16, Try.ntmps16
      go_wp2
      go_ret
      exact ⟨rfl, rfl⟩
    · have e1 : i.tmod n = i % n := by
        have a1 := Int.tmod_eq_emod (a := i) (b := n)
        have a2 := Int.emod_nonneg i hz
        have a3 := Int.emod_lt_of_pos i (show 0 < n from by omega)
        split at a1 <;> omega
      rw [e0, ← e1]
      clear e0 e1 h1 h2 hn
      go_enter Try.func16, Try.ntmps16
      go_wp2
      go_ret
      exact ⟨rfl, rfl⟩

set_option maxHeartbeats 1600000 in
theorem zero_any (w : World) : Calls Try.prog 13 #[] w fun e w' => e = .returned (.agg #[.int .u64 1, .int .u64 0]) ∧ Below w.heap.size w w' := by
  go_enter Try.func13, Try.ntmps13
  go_wp2
  exact bodyPost_ret (v := .agg #[.int .u64 1, .int .u64 0]) (by simp [results, Try.results13, go_sem]) rfl ⟨rfl, bnew w _⟩

set_option maxHeartbeats 1600000 in
theorem span_any (i j : Int) {W : World} {tb : Nat} {jv : Value} {T : Tr Int Mp} (h : TreeM W tb jv T) : Calls Try.prog 24 #[.pointer (some ⟨tb, 0, none⟩), .int .i64 i, .int .i64 j] W fun e w' => (∃ cap, e = .returned (.func (.func 56) #[] cap)) ∧ Below W.heap.size W w' := by
  obtain ⟨p, h1, -⟩ := h
  have hb := aside (((bnew W (.cells #[.int .i64 i] 3)).alloc (by simp) (.cells #[.int .i64 j] 3)))
  have h2 : TObjM ((W.alloc (.cells #[.int .i64 i] 3)).alloc (.cells #[.int .i64 j] 3)) tb jv p := by unfold TObjM at h1 ⊢; exact blk_on h1 hb.out
  obtain ⟨-, -, -, r0, -⟩ := tobjM h2
  have hmf : ∀ (fn : Fn) (first cap : Array Value) (w : World), (Instr.makeFunc fn first cap).run Try.prog w = .ok (.func fn first cap) w := fun _ _ _ _ => rfl
  clear h1 h2
  go_enter Try.func24, Try.ntmps24
  go_wp2
  go_ret
  exact ⟨⟨_, rfl⟩, hb.out.alloc (by simp; omega) _⟩

set_option maxHeartbeats 1600000 in
theorem all_any {W : World} {tb : Nat} {jv : Value} {T : Tr Int Mp} (h : TreeM W tb jv T) : Calls Try.prog 23 #[.pointer (some ⟨tb, 0, none⟩)] W fun e w' => (∃ cap, e = .returned (.func (.func 55) #[] cap)) ∧ Below W.heap.size W w' := by
  have H := aside h
  have hmf : ∀ (fn : Fn) (first cap : Array Value) (w : World), (Instr.makeFunc fn first cap).run Try.prog w = .ok (.func fn first cap) w := fun _ _ _ _ => rfl
  clear h
  go_enter Try.func23, Try.ntmps23
  go_wp2_with fail
  refine (ylenM H.out).mono ?_
  rintro e w1 ⟨rfl, rfl⟩
  go_wp2_with fail
  refine (span_any _ _ H.out).mono ?_
  rintro e w2 ⟨⟨cap, rfl⟩, b⟩
  have B := aside b
  clear b
  go_wp2

  go_ret
  exact ⟨⟨_, rfl⟩, bthen B.out (bnew _ _)⟩

/-- Enough for n. -/
def Enough (n : Nat) (L : Nat) : Prop := n + 1 ≤ 2 ^ L ∧ L ≤ 62

set_option maxHeartbeats 1600000 in
theorem bound_any (n : Nat) (w : World) (hn : n ≤ 281474976710655) : Calls Try.prog 25 #[.int .i64 (n : Int)] w fun e w' => (∃ L : Nat, e = .returned (.int .i64 (16 * (1 + (L : Int)))) ∧ Enough n L) ∧ w' = w := by
  go_enter Try.func25, Try.ntmps25
  go_wp2
  go_loop [3] (fun l => ∃ L : Nat, l = .int .i64 (L : Int) ∧ L ≤ 62) (fun l => 62 - (intOf l).toNat)
  case atStart => exact ⟨0, rfl, by omega⟩
  case round =>
    obtain ⟨L, rfl, hL⟩ := hrel
    have HL := aside hL
    have hN := aside hn
    have w1 : IntKind.i64.wrap ((n : Int) + 1) = (n : Int) + 1 := by rw [IntKind.wrap_i64]; omega
    by_cases q : (L : Int) < 62
    · have hp : (2 : Int) ^ L ≤ 2 ^ 61 := by exact_mod_cast Nat.pow_le_pow_right (by omega) (by omega)
      have hp0 : (0 : Int) < (2 : Int) ^ L := by exact_mod_cast Nat.two_pow_pos L
      have w2 : IntKind.i64.wrap ((2 : Int) ^ L) = (2 : Int) ^ L := by rw [IntKind.wrap_i64]; omega
      by_cases q2 : (2 : Int) ^ L < (n : Int) + 1
      · clear hL hn hp hp0
        go_wp2
        go_round
        case rel => exact ⟨L + 1, by go_num, by omega⟩
        case measure => simp [intOf]; omega
      · have HE : Hid (Enough n L) := ⟨by have : ((n + 1 : Nat) : Int) ≤ ((2 ^ L : Nat) : Int) := by push_cast; omega
                                          exact_mod_cast this, hL⟩
        clear hL hn hp hp0
        go_wp2
        go_ret
        exact ⟨⟨L, by go_num, HE.out⟩, rfl⟩
    · obtain rfl : L = 62 := by omega
      have HE : Hid (Enough n 62) := ⟨by have : (281474976710656 : Nat) ≤ 2 ^ 62 := by decide
                                         omega, Nat.le_refl _⟩
      clear hL hn
      go_wp2
      go_ret
      exact ⟨⟨62, by go_num, HE.out⟩, rfl⟩

end Go.Proofs.Ytnlmlhoddchgbaa

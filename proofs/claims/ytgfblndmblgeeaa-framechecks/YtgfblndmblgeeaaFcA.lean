/-
  The code's small calls on parts and frames.
-/
import Derived.Test.YtgfblndmblgeeaaFrMem
import Derived.Test.YtgfblndmblgeeaaYTaBase
import Derived.Laws.StructEq
import Derived.Deep.RegionHeld
namespace Go.Proofs.Ytgfblndmblgeeaa
open Go.RowKit
set_option linter.unusedVariables false
set_option maxHeartbeats 1600000 in
theorem alone_any (p : Pm) (w : World) : Calls Try.prog 63 #[.agg #[.int .i64 p.kind, .string p.lo, .string p.hi, .bool p.op, .int .i64 p.cnt, .int .u64 p.s0, .int .u64 p.s1, .slice p.ea p.el p.ec]] w fun e w' => e = .returned (.bool p.alone) ∧ Below w.heap.size w w' := by
  obtain ⟨kind, lo, hi, op, cnt, s0, s1, ea, el, ec, T⟩ := p
  dsimp only
  by_cases h1 : kind = 1
  · subst h1
    by_cases h0 : el = 0
    · subst h0
      go_enter Try.func63, Try.ntmps63
      go_wp2
      go_ret
      exact ⟨ret_bool (by simp [Pm.alone]), bnew w _⟩
    · have h0' : ((el : Int) == 0) = false := by simp; omega
      have H0 := aside h0
      go_enter Try.func63, Try.ntmps63
      go_wp2
      go_ret
      exact ⟨ret_bool (by simp [Pm.alone, H0.out]), bnew w _⟩
  · by_cases h2 : kind = 2 ∨ kind = 3
    · obtain ⟨q, hq⟩ : ∃ q, (cnt == 0 && (s0 == 0 && s1 == 0)) = q := ⟨_, rfl⟩
      have TQ := fun W => tal_run cnt s0 s1 0 0 0 W
      rw [hq] at TQ
      have HQ := aside hq
      clear hq h1
      rcases h2 with rfl | rfl
      · skip
        go_enter Try.func63, Try.ntmps63
        go_wp2
        go_ret
        exact ⟨ret_bool (by simp only [Pm.alone]; rw [if_neg (by decide), if_pos (by decide)]; exact HQ.out.symm), bnew w _⟩
      · skip
        go_enter Try.func63, Try.ntmps63
        go_wp2
        go_ret
        exact ⟨ret_bool (by simp only [Pm.alone]; rw [if_neg (by decide), if_pos (by decide)]; exact HQ.out.symm), bnew w _⟩
    · have b1 : (kind == 1) = false := by simpa using h1
      have b2 : (kind == 2) = false := by simp; omega
      have b3 : (kind == 3) = false := by simp; omega
      have H1 := aside h1
      have H2 := aside h2
      go_enter Try.func63, Try.ntmps63
      go_wp2
      go_ret
      exact ⟨ret_bool (by simp only [Pm.alone]; rw [if_neg H1.out, if_neg H2.out]), bnew w _⟩
set_option maxHeartbeats 1600000 in
theorem tlchk_any (c a b : Int) (w : World) : Calls Try.prog 66 #[.agg #[.int .i64 c, .int .u64 a, .int .u64 b]] w fun e w' => e = .returned (.int .i64 (tlChk c a b)) ∧ Below w.heap.size w w' := by
  by_cases h1 : c < 0
  · skip
    go_enter Try.func66, Try.ntmps66
    go_wp2
    go_ret
    exact ⟨ret_i64 (by unfold tlChk; rw [if_pos (by omega)]), bnew w _⟩
  · by_cases h2 : 256 < c
    · skip
      go_enter Try.func66, Try.ntmps66
      go_wp2
      go_ret
      exact ⟨ret_i64 (by unfold tlChk; rw [if_pos (by omega)]), bnew w _⟩
    · by_cases h3 : c = 0
      · subst h3
        by_cases h4 : a = 0 ∧ b = 0
        · have TQ := fun W => tal_ne_run 0 a b 0 0 0 W
          obtain ⟨rfl, rfl⟩ := h4
          go_enter Try.func66, Try.ntmps66
          go_wp2
          go_ret
          exact ⟨ret_i64 (by unfold tlChk; rw [if_neg (by omega), if_neg (by omega)]), bnew w _⟩
        · have TQ := fun W => tal_ne_run 0 a b 0 0 0 W
          have hq : (a == 0 && b == 0) = false := by
            cases h : (a == 0 && b == 0)
            · rfl
            · exact absurd (by simpa using h) h4
          rw [hq] at TQ
          have H4 := aside h4
          clear hq h4
          go_enter Try.func66, Try.ntmps66
          go_wp2
          go_ret
          exact ⟨ret_i64 (by unfold tlChk; rw [if_neg (by omega), if_pos ⟨rfl, H4.out⟩]), bnew w _⟩
      · have b3 : (c == 0) = false := by simpa using h3
        go_enter Try.func66, Try.ntmps66
        go_wp2
        go_ret
        exact ⟨ret_i64 (by unfold tlChk; rw [if_neg (by omega), if_neg (by omega)]), bnew w _⟩
/-- Whether the ends of a frame go together. -/
def endsB (fr tzz o : Int) : Bool := nodeB fr && nodeB tzz && (!(fr == tzz)) && (o == fr || o == tzz)
/-- Whether a turn is the sender's. -/
def turnB (tn fr o : Int) : Bool := decide (¬ tn < 0) && decide (¬ 63 < tn) && ((tn % 2 == 0) == (fr == o))
set_option maxHeartbeats 3200000 in
theorem ends_any (fr tzz o l n tn : Int) (a : Option Addr) (len cap : Nat) (w : World) : Calls Try.prog 34 #[.agg #[.int .i64 fr, .int .i64 tzz, .int .i64 o, .int .i64 l, .int .i64 n, .int .i64 tn, .slice a len cap]] w fun e w' => e = .returned (.bool (endsB fr tzz o)) ∧ Below w.heap.size w w' := by
  cases h1 : nodeB fr
  · have H1 := aside h1
    clear h1
    go_enter Try.func34, Try.ntmps34
    go_wp2_with fail
    refine (fnode_at H1.out _).mono ?_
    rintro e w1 ⟨rfl, rfl⟩
    go_wp2
    go_ret
    exact ⟨ret_bool (by simp [endsB, H1.out]), bnew w _⟩
  · have H1 := aside h1
    clear h1
    cases h2 : nodeB tzz
    · have H2 := aside h2
      clear h2
      go_enter Try.func34, Try.ntmps34
      go_wp2_with fail
      refine (fnode_at H1.out _).mono ?_
      rintro e w1 ⟨rfl, rfl⟩
      go_wp2_with fail
      refine (fnode_at H2.out _).mono ?_
      rintro e w1 ⟨rfl, rfl⟩
      go_wp2
      go_ret
      exact ⟨ret_bool (by simp [endsB, H2.out]), bnew w _⟩
    · have H2 := aside h2
      clear h2
      by_cases h3 : fr = tzz
      · subst h3
        go_enter Try.func34, Try.ntmps34
        go_wp2_with fail
        refine (fnode_at H1.out _).mono ?_
        rintro e w1 ⟨rfl, rfl⟩
        go_wp2_with fail
        refine (fnode_at H2.out _).mono ?_
        rintro e w1 ⟨rfl, rfl⟩
        go_wp2
        go_ret
        exact ⟨ret_bool (by simp [endsB]), bnew w _⟩
      · have b3 : (fr == tzz) = false := by simpa using h3
        have H3 := aside h3
        by_cases h4 : o = fr
        · subst h4
          go_enter Try.func34, Try.ntmps34
          go_wp2_with fail
          refine (fnode_at H1.out _).mono ?_
          rintro e w1 ⟨rfl, rfl⟩
          go_wp2_with fail
          refine (fnode_at H2.out _).mono ?_
          rintro e w1 ⟨rfl, rfl⟩
          go_wp2
          go_ret
          exact ⟨ret_bool (by unfold endsB; rw [H1.out, H2.out, beq_eq_false_iff_ne.2 H3.out]; simpa using H3.out), bnew w _⟩
        · have b4 : (o == fr) = false := by simpa using h4
          have H4 := aside h4
          by_cases h5 : o = tzz
          · subst h5
            go_enter Try.func34, Try.ntmps34
            go_wp2_with fail
            refine (fnode_at H1.out _).mono ?_
            rintro e w1 ⟨rfl, rfl⟩
            go_wp2_with fail
            refine (fnode_at H2.out _).mono ?_
            rintro e w1 ⟨rfl, rfl⟩
            go_wp2
            go_ret
            exact ⟨ret_bool (by unfold endsB; rw [H1.out, H2.out, beq_eq_false_iff_ne.2 H3.out]; simpa using H3.out), bnew w _⟩
          · have b5 : (o == tzz) = false := by simpa using h5
            have H5 := aside h5
            go_enter Try.func34, Try.ntmps34
            go_wp2_with fail
            refine (fnode_at H1.out _).mono ?_
            rintro e w1 ⟨rfl, rfl⟩
            go_wp2_with fail
            refine (fnode_at H2.out _).mono ?_
            rintro e w1 ⟨rfl, rfl⟩
            go_wp2
            go_ret
            exact ⟨ret_bool (by simp [endsB, H4.out, H5.out]), bnew w _⟩
set_option maxHeartbeats 3200000 in
theorem turn_any (fr tzz o l n tn : Int) (a : Option Addr) (len cap : Nat) (w : World) : Calls Try.prog 36 #[.agg #[.int .i64 fr, .int .i64 tzz, .int .i64 o, .int .i64 l, .int .i64 n, .int .i64 tn, .slice a len cap]] w fun e w' => e = .returned (.bool (turnB tn fr o)) ∧ Below w.heap.size w w' := by
  by_cases h1 : tn < 0
  · skip
    go_enter Try.func36, Try.ntmps36
    go_wp2
    go_ret
    exact ⟨ret_bool (by simp [turnB]; omega), bnew w _⟩
  · by_cases h2 : 63 < tn
    · skip
      go_enter Try.func36, Try.ntmps36
      go_wp2
      go_ret
      exact ⟨ret_bool (by simp [turnB]; omega), bnew w _⟩
    · obtain ⟨q, hq⟩ : ∃ q, (tn % 2 == 0) = q := ⟨_, rfl⟩
      obtain ⟨z, hz⟩ : ∃ z, (fr == o) = z := ⟨_, rfl⟩
      have HQ := aside hq
      have HZ := aside hz
      cases q <;> cases z
      all_goals
        go_enter Try.func36, Try.ntmps36
        go_wp2
        go_ret
        exact ⟨ret_bool (by unfold turnB; rw [HQ.out, HZ.out, decide_eq_true (show ¬ tn < 0 by omega), decide_eq_true (show ¬ 63 < tn by omega)]; rfl), bnew w _⟩
theorem rg_run (lo hi : ByteArray) (op : Bool) (lo' hi' : ByteArray) (op' : Bool) (w : World) : (binOp .eql 43 (.agg #[.string lo, .string hi, .bool op]) (.agg #[.string lo', .string hi', .bool op'])).run Try.prog w = .ok (.bool (lo.toList == lo'.toList && (hi.toList == hi'.toList && op == op'))) w := by
  rw [run_eql_struct, show (10000 : Nat) = 9999 + 1 from rfl]
  go_simp
  cases h1 : (lo.toList == lo'.toList) <;> cases h2 : (hi.toList == hi'.toList) <;> cases op <;> cases op' <;> simp_all
set_option maxHeartbeats 400000 in
theorem whole_any (w : World) : Calls Try.prog 62 #[] w fun e w' => e = .returned (.agg #[.string ⟨#[]⟩, .string ⟨#[]⟩, .bool true]) ∧ Below w.heap.size w w' := by
  go_enter Try.func62, Try.ntmps62
  go_wp2
  obtain ⟨s0, s1, s2, -⟩ := tri (heap_alloc_new w (.cells #[.string ⟨#[]⟩, .string ⟨#[]⟩, .bool true] 43))
  exact bodyPost_ret (v := .agg #[.string ⟨#[]⟩, .string ⟨#[]⟩, .bool true]) (by simp [results, Try.results62, go_sem, s0, s1, s2]) rfl ⟨rfl, bnew w _⟩
end Go.Proofs.Ytgfblndmblgeeaa

/-
  What entries come to: the code's All.
-/
import Derived.Test.YtfkdhambbpkmpaaDoorBv14
namespace Go.Proofs.YtfkdhambbpkmpaaDoor
open Go.RowKit
set_option linter.unusedVariables false
set_option maxHeartbeats 3200000 in
set_option maxRecDepth 100000 in
theorem tall_any (a : Option Addr) (len cap : Nat) (T : Nat → En) (w : World) (L : Lanes w) (h : EntsIn w a len cap T) :
    Calls Tryd.prog 13 #[.slice a len cap] w fun e w' => e = .returned (talT T len) ∧ Below w.heap.size w w' := by
  have LL := aside L
  clear L
  have HE := aside h
  obtain ⟨hlc, hcm, -⟩ := h
  have hmx : (len : Int) ≤ 9223372036854775807 := by unfold maxLen at hcm; omega
  clear hlc hcm
  go_enter Tryd.func13, Tryd.ntmps13
  go_wp2
  go_loopw [8] (fun i wr => ∃ j : Nat, i = .int .i64 (j : Int) ∧ j ≤ len ∧ TAll w wr (j : Int) (allI f0 (firstE T j)) (allI f1 (firstE T j))) (fun i _ => len - (intOf i).toNat)
  case atStart =>
    refine ⟨0, rfl, Nat.zero_le _, ?_⟩
    rw [show firstE T 0 = [] from rfl, allI_nil, allI_nil]
    exact tall_start w
  case round =>
    obtain ⟨j, rfl, hj, S⟩ := hrel
    have HS := aside S
    by_cases hlt : (j : Int) < (len : Int)
    · have hE := HE.out.keep S.below
      rcases hE.2.2 with h0 | ⟨b, off, rfl, hb, hc⟩
      · omega
      · obtain ⟨⟨c0, c1, c2, c3, c4⟩, hkk⟩ := hc j (by omega)
        have e0 := allI_snoc f0 (firstE T j) (T j)
        have e1 := allI_snoc f1 (firstE T j) (T j)
        rw [← firstE_succ, f0] at e0
        rw [← firstE_succ, f1] at e1
        have E0 := aside e0
        have E1 := aside e1
        have hsz := S.sz
        obtain ⟨-, -, -, s1⟩ := S
        obtain ⟨p0, p1, p2, p3, p4, p5⟩ := tri s1
        generalize T j = t at *
        generalize allI f0 (firstE T j) = x0 at *
        generalize allI f1 (firstE T j) = x1 at *
        have hj0 : (0 : Int) ≤ (j : Int) := by omega
        have hjw : IntKind.i64.wrap ((j : Int) + 1) = (j : Int) + 1 := by rw [IntKind.wrap_i64]; omega
        obtain ⟨o0, ho0⟩ : ∃ o, of0 t.k t.c t.n = o := ⟨_, rfl⟩
        obtain ⟨o1, ho1⟩ : ∃ o, of1 t.k t.c t.n = o := ⟨_, rfl⟩
        rw [ho0] at E0
        rw [ho1] at E1
        obtain ⟨r0', hr0⟩ : ∃ o, IntKind.u64.wrap (x0 + o0) = o := ⟨_, rfl⟩
        obtain ⟨r1', hr1⟩ : ∃ o, IntKind.u64.wrap (x1 + o1) = o := ⟨_, rfl⟩
        rw [hr0] at E0
        rw [hr1] at E1
        have CO : Hid (∀ W, Below w.heap.size w W → Calls Tryd.prog 32 #[.agg #[.string t.k, .int .i64 t.c, .int .i64 t.n, .string t.v, .bool t.d]] W fun e w' => e = .returned (.agg #[.int .i64 1, .int .u64 o0, .int .u64 o1]) ∧ Below W.heap.size W w') := fun W bw => by
          rw [← ho0, ← ho1]
          exact tof_any _ _ _ _ _ W (LL.out.keep bw) hkk
        have CJ := aside (fun W => join_at hjw hr0 hr1 W)
        clear e0 e1 hc hE s1 ho0 ho1 hr0 hr1
        have HS4 := aside (HS.out.keep (bnew wr (.cells #[.string t.k, .int .i64 t.c, .int .i64 t.n, .string t.v, .bool t.d] 55)))
        have R5 := quint (heap_alloc_new wr (.cells #[.string t.k, .int .i64 t.c, .int .i64 t.n, .string t.v, .bool t.d] 55))
        have HR5 := aside R5
        clear R5
        go_wp2_with fail
        clear p0 p1 p2 p3 p4 p5 c0 c1 c2 c3 c4 hb hsz
        generalize wr.alloc (.cells #[.string t.k, .int .i64 t.c, .int .i64 t.n, .string t.v, .bool t.d] 55) = V at *
        generalize wr.heap.size = g at *
        obtain ⟨r0, r1, r2, r3, r4⟩ := HR5.out
        obtain ⟨-, -, -, s4⟩ := HS4.out
        obtain ⟨p0, p1, p2, p3, p4, p5⟩ := tri s4
        clear s4 HR5
        go_region_with (first | (go_at_call 32; refine (CO.out _ HS4.out.drew.below).mono ?_; rintro e w1 ⟨rfl, b1⟩; have S5 := HS4.out.drew.keep b1; have HS5 := aside S5; obtain ⟨-, -, -, s5⟩ := S5; obtain ⟨q0, q1, q2, q3, q4, q5⟩ := tri s5; clear s5 b1) | (go_at_call 31; refine (CJ.out _).mono ?_; rintro e w2 ⟨rfl, b2⟩; have S6 := HS5.out.keep b2; have HS6 := aside S6; obtain ⟨-, -, -, s6⟩ := S6; obtain ⟨y0, y1, y2, y3, y4, y5⟩ := tri s6; clear s6 b2))
        all_goals
          go_wp2
          go_roundw
          case rel =>
            refine ⟨j + 1, by go_num, by omega, ?_⟩
            rw [E0.out, E1.out]
            exact HS6.out.set _ _ _
          case measure => simp [intOf]; omega
    · have hjl : j = len := by omega
      subst hjl
      obtain ⟨-, hsz, s1, s2⟩ := S
      obtain ⟨p0, p1, p2, p3, p4, p5⟩ := tri s1
      obtain ⟨q0, q1, q2, q3, q4, q5⟩ := tri s2
      clear s1 s2
      go_wp2
      exact bodyPost_ret (v := talT T j) (by simp [results, Tryd.results13, go_sem, p0, p1, p2, talT]) rfl ⟨rfl, ((HS.out.below.setCell (by simp) _).setCell (by simp) _).setCell (by simp) _⟩
end Go.Proofs.YtfkdhambbpkmpaaDoor

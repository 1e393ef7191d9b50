/-
  CheckParts, isOpening and Check, the code's.
  isOpening and Check, the code's.
-/
import Derived.Test.YtpbkjffiohfkcaaGreatDoorBo30
namespace Go.Proofs.YtpbkjffiohfkcaaGreatDoor
open Go.RowKit
set_option linter.unusedVariables false
theorem part_of (p : Pm) (lo1 hi1 : ByteArray) (op1 : Bool) (w : World) (h : p.In w) {q : Int} (hq : p.chk hi1 op1 = q) : Calls Tryz.prog 43 #[.agg #[.int .i64 p.kind, .string p.lo, .string p.hi, .bool p.op, .int .i64 p.cnt, .int .u64 p.s0, .int .u64 p.s1, .slice p.ea p.el p.ec], .agg #[.string lo1, .string hi1, .bool op1]] w fun e w' => e = .returned (.int .i64 q) ∧ Below w.heap.size w w' := by
  subst hq
  exact part_any p lo1 hi1 op1 w h
theorem count_of {a : Option Addr} {len cap : Nat} {P : Nat → Pm} {w : World} (h : PartsIn w a len cap P) (hT : totE P len ≤ 4611686018427387904) {q : Nat} (hq : totE P len = q) :
    Calls Tryz.prog 42 #[.slice a len cap] w fun e w' => e = .returned (.int .i64 (q : Int)) ∧ Below w.heap.size w w' := by
  subst hq
  exact count_any a len cap P w h hT
set_option maxHeartbeats 6400000 in
set_option maxRecDepth 100000 in
theorem parts_any (a : Option Addr) (len cap : Nat) (P : Nat → Pm) (w : World) (h : PartsIn w a len cap P) (hT : totE P len ≤ 4611686018427387904) :
    Calls Tryz.prog 22 #[.slice a len cap] w fun e w' => e = .returned (.int .i64 (psChk P len)) ∧ Below w.heap.size w w' := by
  have HE := aside h
  obtain ⟨q, hq⟩ : ∃ q, totE P len = q := ⟨_, rfl⟩
  have CN := aside (count_of h hT hq)
  have HQ := aside hq
  obtain ⟨hlc, hcm, -⟩ := h
  have hmx : (len : Int) ≤ 9223372036854775807 := by unfold maxLen at hcm; omega
  clear hlc hcm hT hq
  by_cases h1 : (768 : Int) < (len : Int)
  · go_enter Tryz.func22, Tryz.ntmps22
    go_wp2
    go_ret
    exact ⟨ret_i64 (by unfold psChk; rw [if_pos (.inl (by omega))]), Below.refl _ _⟩
  · by_cases h2 : (256 : Int) < (q : Int)
    · go_enter Tryz.func22, Tryz.ntmps22
      go_wp2_with fail
      refine CN.out.mono ?_
      rintro e w1 ⟨rfl, b1⟩
      have B1 := aside b1
      clear b1
      go_wp2
      go_ret
      exact ⟨ret_i64 (by unfold psChk; rw [if_pos (.inr (by rw [HQ.out]; omega))]), B1.out⟩
    · go_enter Tryz.func22, Tryz.ntmps22
      go_wp2_with fail
      refine CN.out.mono ?_
      rintro e w1 ⟨rfl, b1⟩
      have HPS := aside (show psChk P len = ptN P len from by unfold psChk; rw [if_neg (by rw [HQ.out]; omega)])
      have B1 := aside (bthen b1 (bnew w1 (.cells #[.string ⟨#[]⟩, .string ⟨#[]⟩, .bool false] 40)))
      have KR := aside (heap_alloc_new w1 (.cells #[.string ⟨#[]⟩, .string ⟨#[]⟩, .bool false] 40))
      have HAB := aside b1.size
      clear b1 CN
      go_wp2
      obtain ⟨ab, hab⟩ : ∃ ab, w1.heap.size = ab := ⟨_, rfl⟩
      rw [hab] at KR HAB ⊢
      clear hab
      generalize w1.alloc (.cells #[.string ⟨#[]⟩, .string ⟨#[]⟩, .bool false] 40) = X0 at B1 KR ⊢
      go_loopw [17] (fun i wr => ∃ j : Nat, i = .int .i64 (j : Int) ∧ j ≤ len ∧ Hid (ptN P j = 0) ∧ Below w.heap.size w wr ∧ Hid (wr.heap[ab]? = some (.cells #[.string (ahLo P j), .string (ahHi P j), .bool (ahOp P j)] 40 (0, 0)))) (fun i _ => len - (intOf i).toNat)
      case atStart => exact ⟨0, rfl, Nat.zero_le _, rfl, B1.out, KR.out⟩
      case round =>
        obtain ⟨j, rfl, hj, HC, hB, HR⟩ := hrel
        have HB := aside hB
        clear hB
        by_cases hlt : (j : Int) < (len : Int)
        · have hE := HE.out.keep HB.out
          rcases hE.2.2 with h0 | ⟨b, off, rfl, hb, hc⟩
          · omega
          obtain ⟨hat, hin⟩ := hc j (by omega)
          obtain ⟨p, hp⟩ : ∃ p, P j = p := ⟨_, rfl⟩
          have HP := aside hp
          rw [hp] at hat hin
          clear hp hc
          obtain ⟨kind, lo, hi, op, cnt, s0, s1, ea, el, ec, T⟩ := p
          obtain ⟨c0, c1, c2, c3, c4, c5, c6, c7⟩ := hat
          dsimp only at c0 c1 c2 c3 c4 c5 c6 c7
          have hj0 : (0 : Int) ≤ (j : Int) := by omega
          obtain ⟨q2, hq2⟩ : ∃ q2, ptAt P j = q2 := ⟨_, rfl⟩
          have HQ2 := aside hq2
          obtain ⟨rl, hrl⟩ : ∃ rl, ahLo P j = rl := ⟨_, rfl⟩
          obtain ⟨rh, hrh⟩ : ∃ rh, ahHi P j = rh := ⟨_, rfl⟩
          obtain ⟨ro, hro⟩ : ∃ ro, ahOp P j = ro := ⟨_, rfl⟩
          unfold ptAt at hq2
          rw [HP.out, hrh, hro] at hq2
          rw [hrl, hrh, hro] at HR
          have CQ := aside (fun W (bb : Below wr.heap.size wr W) => part_of ⟨kind, lo, hi, op, cnt, s0, s1, ea, el, ec, T⟩ rl rh ro W (hin.keep bb) hq2)
          clear hq2 hrl hrh hro hin
          obtain ⟨r0, r1, r2, -⟩ := tri (blk_on HR.out (bnew wr (.cells #[.int .i64 kind, .string lo, .string hi, .bool op, .int .i64 cnt, .int .u64 s0, .int .u64 s1, .slice ea el ec] 47)))
          by_cases hq0 : q2 = 0
          · subst hq0
            go_wp2_with fail
            refine (CQ.out _ (bnew wr _)).mono ?_
            rintro e w2 ⟨rfl, b2⟩
            have B2 := aside (HB.out.trans ((bthen (bnew wr (.cells #[.int .i64 kind, .string lo, .string hi, .bool op, .int .i64 cnt, .int .u64 s0, .int .u64 s1, .slice ea el ec] 47)) b2).mono HB.out.size))
            have HR2 := aside (blk_on HR.out (bthen (bnew wr (.cells #[.int .i64 kind, .string lo, .string hi, .bool op, .int .i64 cnt, .int .u64 s0, .int .u64 s1, .slice ea el ec] 47)) b2))
            obtain ⟨-, p1, p2, p3, -⟩ := oct8 (blk_on (heap_alloc_new wr (.cells #[.int .i64 kind, .string lo, .string hi, .bool op, .int .i64 cnt, .int .u64 s0, .int .u64 s1, .slice ea el ec] 47)) b2)
            clear r0 r1 r2
            obtain ⟨r0, r1, r2, z0, z1, z2⟩ := tri HR2.out
            clear b2 CQ c0 c1 c2 c3 c4 c5 c6 c7
            go_wp2
            go_roundw
            case rel => exact ⟨j + 1, by go_num, by omega, (ptN_step HC.out).trans HQ2.out, ((B2.out.setCell (by simpa using HAB.out) _).setCell (by simpa using HAB.out) _).setCell (by simpa using HAB.out) _, by
                have h9 := set_tri HR2.out (.string lo) (.string hi) (.bool op)
                simp only [ahLo, ahHi, ahOp, HP.out]
                exact h9⟩
            case measure => simp [intOf]; omega
          · have HQ0 := aside hq0
            go_wp2_with fail
            refine (CQ.out _ (bnew wr _)).mono ?_
            rintro e w2 ⟨rfl, b2⟩
            have B2 := aside (HB.out.trans ((bthen (bnew wr (.cells #[.int .i64 kind, .string lo, .string hi, .bool op, .int .i64 cnt, .int .u64 s0, .int .u64 s1, .slice ea el ec] 47)) b2).mono HB.out.size))
            clear b2 CQ c0 c1 c2 c3 c4 c5 c6 c7 r0 r1 r2
            have hqb : (q2 == 0) = false := by simpa using hq0
            go_wp2
            go_ret
            exact ⟨ret_i64 (by rw [HPS.out, ptN_bad HC.out (by omega) (by rw [HQ2.out]; exact HQ0.out)]; exact HQ2.out.symm), B2.out⟩
        · have hjl : j = len := by omega
          subst hjl
          go_wp2
          go_ret
          exact ⟨ret_i64 (by rw [HPS.out]; exact HC.out.symm), HB.out⟩
end Go.Proofs.YtpbkjffiohfkcaaGreatDoor
namespace Go.Proofs.YtpbkjffiohfkcaaGreatDoor
open Go.RowKit
set_option linter.unusedVariables false
section
variable {fr tzz o l n tn : Int} {P : Nat → Pm} {len : Nat}
end
end Go.Proofs.YtpbkjffiohfkcaaGreatDoor

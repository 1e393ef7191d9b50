/-
  What is wrong with one part, behind those ahead of it: the document's own.
-/
import Derived.Test.YtpbkjffiohfkcaaGreatDoorBr29
import Derived.Test.YtpbkjffiohfkcaaGreatDoorBr1
import Derived.Deep.CutBlock
import Derived.Deep.DeepCutAuto
namespace Go.Proofs.YtpbkjffiohfkcaaGreatDoor
open Go.RowKit
set_option linter.unusedVariables false
def tileB (lo hi : ByteArray) (op : Bool) (h1 : ByteArray) (o1 : Bool) : Bool := (!op && lo.toList == hi.toList) || (o1 || kLt lo h1)
theorem noless2 (x : ByteArray) : Op.bytesLess x.toList [] = false := by
 cases x.toList <;> rfl
theorem tile_of {p : Pm} {h1 : ByteArray} {o1 : Bool} (hc : p.rg.chk = 0) : (p.rg.emp = true ∨ o1 = true ∨ kLt p.lo h1 = true) ↔ tileB p.lo p.hi p.op h1 o1 = true := by
 have hm : p.rg.may = true := by simp [Rg.may, hc]
 unfold tileB Rg.emp
 rw [hm]
 simp [Pm.rg]
theorem itsR_of (p : Pm) (w : World) (h : p.In w) {q : Int} (hq : p.its = q) : Calls Tryz.prog 97 #[.agg #[.int .i64 p.kind, .string p.lo, .string p.hi, .bool p.op, .int .i64 p.cnt, .int .u64 p.s0, .int .u64 p.s1, .slice p.ea p.el p.ec]] w fun e w' => e = .returned (.int .i64 q) ∧ Below w.heap.size w w' := by
 subst hq
 exact itsR_any p w h
theorem pt_bad {P : Nat → Pm} {i : Nat} {p : Pm} (hp : P i = p) (ha : p.alone = false) : ptAt P i = 114 := by unfold ptAt; rw [hp]; exact chk_1 ha
theorem pt_rg {P : Nat → Pm} {i : Nat} {p : Pm} {q : Int} (hp : P i = p) (ha : p.alone = true) (hq : p.rg.chk = q) (h0 : q ≠ 0) : ptAt P i = q := by unfold ptAt; rw [hp]; subst hq; exact chk_2 ha h0
theorem pt_tile {P : Nat → Pm} {i : Nat} {p : Pm} (hp : P i = p) (ha : p.alone = true) (hq : p.rg.chk = 0) (ht : tileB p.lo p.hi p.op (ahHi P i) (ahOp P i) = true) : ptAt P i = 115 := by unfold ptAt; rw [hp]; exact chk_3 ha hq ((tile_of hq).2 ht)
theorem pt_rest {P : Nat → Pm} {i : Nat} {p : Pm} (hp : P i = p) (ha : p.alone = true) (hq : p.rg.chk = 0) (ht : tileB p.lo p.hi p.op (ahHi P i) (ahOp P i) = false) : ptAt P i = if p.kind = 1 then tlChk p.cnt p.s0 p.s1 else p.its := by
 have hn : ¬ (p.rg.emp = true ∨ ahOp P i = true ∨ kLt p.lo (ahHi P i) = true) := fun g => by rw [(tile_of hq).1 g] at ht; cases ht
 unfold ptAt Pm.chk
 rw [hp, if_neg (by simp [ha]), if_neg (by simp [hq]), if_neg hn]
set_option maxHeartbeats 12800000 in
set_option maxRecDepth 100000 in
theorem rpart_bad (a : Option Addr) (len cap : Nat) (P : Nat → Pm) (i : Nat) (w : World) (h : PartsIn w a len cap P) (hi0 : i < len) (kind : Int) (lo hi : ByteArray) (op : Bool) (cnt s0 s1 : Int) (ea : Option Addr) (el ec : Nat) (T : Nat → En) (hp : P i = ⟨kind, lo, hi, op, cnt, s0, s1, ea, el, ec, T⟩) (ha : Pm.alone ⟨kind, lo, hi, op, cnt, s0, s1, ea, el, ec, T⟩ = false) :
    Calls Tryz.prog 63 #[.slice a len cap, .int .i64 (i : Int)] w fun e w' => e = .returned (.int .i64 (ptAt P i)) ∧ Below w.heap.size w w' := by
 have hmx : (len : Int) ≤ 9223372036854775807 := by have := h.1; have h2 := h.2.1; unfold maxLen at h2; omega
 rcases h.2.2 with h0 | ⟨b, off, rfl, hb, hc⟩
 ·omega
 obtain ⟨hat, hin⟩ := hc i hi0
 rw [hp] at hat hin
 have HCC := aside hc
 have HP := aside hp
 clear hc hp
 obtain ⟨c0, c1, c2, c3, c4, c5, c6, c7⟩ := hat
 dsimp only at c0 c1 c2 c3 c4 c5 c6 c7
 have hj0 : (0 : Int) ≤ (i : Int) := by omega
 have hlt : (i : Int) < (len : Int) := by omega
 have HA := aside ha
 by_cases k1 : kind < 1
 ·skip
  go_enter Tryz.func63, Tryz.ntmps63
  go_wp2
  go_ret
  exact ⟨ret_i64 ((pt_bad HP.out HA.out).symm), bnew w _⟩
 ·by_cases k3 : 3 < kind
  ·skip
   go_enter Tryz.func63, Tryz.ntmps63
   go_wp2
   go_ret
   exact ⟨ret_i64 ((pt_bad HP.out HA.out).symm), bnew w _⟩
  ·by_cases kk : kind = 1
   ·subst kk
    have e0 : (0 : Int) < (el : Int) := by
     have : ¬ el = 0 := fun g => by subst g; simp [Pm.alone] at ha
     omega
    clear ha
    go_enter Tryz.func63, Tryz.ntmps63
    go_wp2
    go_ret
    exact ⟨ret_i64 ((pt_bad HP.out HA.out).symm), bnew w _⟩
   ·have bk : (kind == 1) = false := by simpa using kk
    have hz : (cnt == 0 && (s0 == 0 && s1 == 0)) = false := by
     unfold Pm.alone at ha
     dsimp only at ha
     rw [if_neg kk, if_pos (by omega)] at ha
     exact ha
    have TQ := fun W => tal_ne_run cnt s0 s1 0 0 0 W
    rw [hz] at TQ
    clear ha hz kk
    go_enter Tryz.func63, Tryz.ntmps63
    go_wp2
    go_ret
    exact ⟨ret_i64 ((pt_bad HP.out HA.out).symm), bnew w _⟩
end Go.Proofs.YtpbkjffiohfkcaaGreatDoor

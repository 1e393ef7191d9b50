/-
  A slice of bytes that came in, of whatever size, appended to one of ours.
-/
import Derived.Test.YtlbkcndmljlnmaaDoorBx38
import Derived.Deep.DeepAppendWide
namespace Go.Proofs.YtlbkcndmljlnmaaDoor
open Go.RowKit
set_option linter.unusedVariables false
theorem op_append_argW {w : World} {o : Oper} {act : Act} {K : Act → World → Prop} {Q : Exit → Act → World → Prop} (s x : Operand)
    (ho : o.op = .call { callee := .builtin .append, args := #[s, x], argTypes := #[31, 31] })
    (B : Nat) (v : Value) (l : List UInt8) (hs : act.eval s = v) (hA : w.ownsRow B 5 1 v l.length (Lib.byteCells l)) (a : Option Addr) (len cap : Nat) (M : List UInt8) (hx : act.eval x = .slice a len cap) (hM : ArgB w a len cap M)
    (hlen : l.length + len ≤ 200000000000000) (hB : B ≤ w.heap.size)
    (h : ∀ v' w', w'.ownsRow B 5 1 v' (l ++ M).length (Lib.byteCells (l ++ M)) → w.grownBy w' v.ownBlock → K (act.put o.dst v') w') : o.wp Tryd.prog act w K Q := by
  obtain ⟨i0, hi, hz0, hz1, hz2⟩ := info_parts info8
  obtain ⟨m1, m2, m3, m4⟩ := hM
  rcases m4 with ⟨rfl, rfl, rfl⟩ | ⟨y, rfl, hc⟩
  · have hrun := run_append_owned_none (P := Tryd.prog) (w := w) B 31 o.type 5 i0 1 Tryd.underlying31 hi _ _ _ hA
    unfold Oper.wp
    simp [execOp, ho, resolve, invoke, builtin, hs, hx, hrun, Result.andThen]
    have e : M = [] := List.length_eq_zero_iff.1 m1
    subst e
    refine h v w ?_ (World.grownBy.refl _ _)
    rw [List.append_nil]
    exact hA
  · refine wp_append_own_wide w s x _ ho B 5 i0 _ 1 1 Tryd.underlying31 hi hz0 hz1 hz2 rfl (by decide) _ _ _ hs hA y len cap (Lib.byteCells M) hx (by rw [Lib.byteCells_length]; omega) hc (fun u hu => by
      unfold Lib.byteCells at hu
      obtain ⟨b, -, rfl⟩ := List.mem_map.1 hu
      rfl) (by unfold maxLen; omega) (by omega) hB ?_
    intro v' w' ho' hg _
    refine h v' w' ?_ hg
    rw [List.length_append, m1]
    have e : Lib.byteCells (l ++ M) = Lib.byteCells l ++ Lib.byteCells M := by simp [Lib.byteCells]
    rw [e]
    exact ho'
end Go.Proofs.YtlbkcndmljlnmaaDoor

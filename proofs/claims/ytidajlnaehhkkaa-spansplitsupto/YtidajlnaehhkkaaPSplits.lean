/-
  Proved: for every range and every borders, where what the law reads is of bulk at most 1048576, the law SpanSplits returns true and leaves its arguments as they were: Split is the document's; what was handed in stays, and is not kept; what comes out is the caller's. The bound is the statement's own second form.
-/
import Derived.Test.YtidajlnaehhkkaaRows
import Derived.Test.YtidajlnaehhkkaaLSplits
import Derived.Test.YtidajlnaehhkkaaSOpen2
import Derived.Test.YtidajlnaehhkkaaSUpto
import Derived.Test.YtidajlnaehhkkaaUBulk
namespace Go.Proofs.Ytidajlnaehhkkaa.spanSplits
open Go.ChangeShapes Go.WideShapes Go.ChangeAt Go.RowKit
open Go.ChangeMaps (open_string shut_string)
set_option linter.unusedVariables false

set_option maxRecDepth 100000 in
theorem lifted (os : Os) (started : os.Started) (H : Type) (enc : TypeId × Value → H) (F : Stop.Interp) :
    ReturnsInHanded {} Try.checked os 6 .any ((Rows.OpenSpec.upto Rows.spanSplitsSpec).pre6 enc Try.prog Try.f6 Rows.spanSplitsUptoRow.domain false) (((Rows.OpenSpec.upto Rows.spanSplitsSpec).at F).post enc Try.prog Try.f6 false true false false) := by
  refine returnsInHanded_of_cond_shaped (C := Try.checked) (s := Rows.OpenSpec.upto Rows.spanSplitsSpec) (k := Rows.uptoSmall) rfl own started (by kernel_rfl) Try.func6
    (OpenSpec.witness (enc := enc) (C := Try.checked) (s := Rows.OpenSpec.upto Rows.spanSplitsSpec) (k := Rows.uptoSmall) rfl false ⟨#[], #[.agg #[.string ByteArray.empty, .string ByteArray.empty, .bool false], .slice none 0 0], []⟩ 8 (by kernel_rfl) (by kernel_rfl) (by kernel_rfl)
      (x := ([.agg [.lit (.string []), .lit (.string []), .lit (.bool false)], .nil], [], [])) (by kernel_rfl) rfl (by kernel_rfl)) ?_
  intro W base args ds gs before hval0 hW hcnd hk hsz0 hsh _
  have hval : ∀ (j : Nat) t v, Try.f6.params[j]? = some t → args[j]? = some v → Value.okWide Try.prog W .any base t v := hval0
  have hsz : (DataW.weightsEach Try.prog (Try.f6.params.toList ++ (Rows.OpenSpec.upto Rows.spanSplitsSpec).bare.plain.varTypes Try.prog) (ds ++ gs)).all (· ≤ reachBytes) = true := hsz0
  have hW' := hW
  obtain ⟨p, q, hA0, hV, rfl, hfz, hnd⟩ := hW
  have hA : DataW.TrodAll enc Try.prog W 0 (fun _ => true) true Try.f6.params.toList args.toList ds p := hA0
  rw [Try.params6] at hA hval hsz
  obtain ⟨v0, vs0, d0, ds0, p0, q0, hargs0, rfl, rfl, h0, r0⟩ := trodAll_cons hA
  obtain ⟨v1, vs1, d1, ds1, p1, q1, hargs1, rfl, rfl, h1, r1⟩ := trodAll_cons r0
  obtain ⟨rfl, rfl, rfl⟩ := trodAll_nil r1
  subst hargs1
  obtain rfl : args = #[v0, v1] := by cases args; simp_all
  obtain ⟨rfl, rfl⟩ := trodVars_none hV
  have hbulk := of_decide_eq_true hk
  simp only [Rows.uptoBulkAll, List.append_nil] at hbulk
  obtain ⟨lo0, hi0, op0, rfl, rfl, rfl, wl0, wh0⟩ := open_rg (hval 0 23 v0 rfl rfl) h0
  obtain ⟨a1, len1, cap1, rfl⟩ := okWide_slice Try.underlying33 (hval 1 33 v1 rfl rfl)
  have k1 := h1
  have lt1 : ∀ x ∈ p1, x.block < W.heap.size := by obtain ⟨m, hm⟩ := k1; exact DataW.trod_lt m _ _ _ hm
  have bl1 : len1 ≤ Rows.uptoBulk d1 := by
    obtain ⟨fuel, hf⟩ := h1
    exact bulk_slice Try.underlying33 (by simpa [Value.cells] using hf)
  obtain ⟨T1, w1, l1, f1⟩ : ∃ T, StrsIn W.heap.size W a1 len1 cap1 T ∧ len1 * 16 ≤ 140737488351232 ∧ ((a1 = none ∧ len1 = 0 ∧ cap1 = 0) ∨ ∃ x, a1 = some x) := by
    obtain ⟨fuel, hf⟩ := h1
    refine strs_open (enc := enc) (d := d1) (ps := p1) (fuel := fuel) (by simpa [Value.cells] using hf) ?_
    intro n hn
    have := List.all_eq_true.1 hsz n (DataW.weights_mem_each (j := 1) (t := 33) rfl rfl n hn)
    simpa using this
  clear hA0 hval0 hsz0
  refine (splits_walk lo0 hi0 op0 a1 len1 cap1 T1 W (max_of_shape hsh) w1 f1 (by omega)).mono fun e W' ⟨he, bel⟩ => ?_
  subst he
  exact ⟨_, rfl, _, _, _, [], _, [], hW', trodAll_mk1 (shut_bool Try.underlying4 _), (trodAll_cons_mk (shut_rg wl0 wh0) (trodAll_cons_mk (Below.trod laidOut (by kernel_rfl) (of_decide_eq_true (by kernel_rfl)) k1 bel lt1) trodAll_mk0)), rfl, bel.frame _, fun h => by cases h⟩

theorem over : Rows.spanSplitsUptoRow.holds Try.pinned (Rows.OpenSpec.upto Rows.spanSplitsSpec) :=
  OpenClaim.holds_of_cond 6 Try.f6 rfl rfl rfl rfl rfl rfl rfl ⟨rfl, rfl, rfl, rfl, rfl⟩ rfl rfl rfl rfl rfl (by kernel_rfl) Try.func6 (by kernel_rfl)
    (of_decide_eq_true (by kernel_rfl)) (by unfold Func.isWrapper; first | (rw [if_pos (by decide +kernel)]; kernel_rfl) | (rw [if_neg (by decide +kernel)]; exact ⟨rfl, rfl⟩))
    (fun os started H enc _ F => lifted os started H enc F)

end Go.Proofs.Ytidajlnaehhkkaa.spanSplits
namespace Go.Proofs.Ytidajlnaehhkkaa
theorem spanSplits_holds : Rows.SpanSplitsUptoSaid := spanSplits.over
end Go.Proofs.Ytidajlnaehhkkaa

/-
  Proved: for every range, borders, ranges and keys, where what the law reads is of bulk at most 1048576, the law SpanOnce returns true and leaves its arguments as they were: a key of a range stands in just one of the parts into which it is split, another one in none; the parts rise and tile; likewise of any ranges that tile one that may be. The bound is the statement's own second form.
-/
import Derived.Test.YtidajlnaehhkkaaRows
import Derived.Test.YtidajlnaehhkkaaLOnce
import Derived.Test.YtidajlnaehhkkaaSOpen2
import Derived.Test.YtidajlnaehhkkaaSUpto
import Derived.Test.YtidajlnaehhkkaaUBulk
namespace Go.Proofs.Ytidajlnaehhkkaa.spanOnce
open Go.ChangeShapes Go.WideShapes Go.ChangeAt Go.RowKit
open Go.ChangeMaps (open_string shut_string)
set_option linter.unusedVariables false

set_option maxRecDepth 100000 in
theorem lifted (os : Os) (started : os.Started) (H : Type) (enc : TypeId × Value → H) (F : Stop.Interp) :
    ReturnsInHanded {} Try.checked os 8 .any ((Rows.OpenSpec.upto Rows.spanOnceSpec).pre6 enc Try.prog Try.f8 Rows.spanOnceUptoRow.domain false) (((Rows.OpenSpec.upto Rows.spanOnceSpec).at F).post enc Try.prog Try.f8 false true false false) := by
  refine returnsInHanded_of_cond_shaped (C := Try.checked) (s := Rows.OpenSpec.upto Rows.spanOnceSpec) (k := Rows.uptoSmall) rfl own started (by kernel_rfl) Try.func8
    (OpenSpec.witness (enc := enc) (C := Try.checked) (s := Rows.OpenSpec.upto Rows.spanOnceSpec) (k := Rows.uptoSmall) rfl false ⟨#[], #[.agg #[.string ByteArray.empty, .string ByteArray.empty, .bool false], .slice none 0 0, .slice none 0 0, .slice none 0 0], []⟩ 8 (by kernel_rfl) (by kernel_rfl) (by kernel_rfl)
      (x := ([.agg [.lit (.string []), .lit (.string []), .lit (.bool false)], .nil, .nil, .nil], [], [])) (by kernel_rfl) rfl (by kernel_rfl)) ?_
  intro W base args ds gs before hval0 hW hcnd hk hsz0 hsh _
  have hval : ∀ (j : Nat) t v, Try.f8.params[j]? = some t → args[j]? = some v → Value.okWide Try.prog W .any base t v := hval0
  have hsz : (DataW.weightsEach Try.prog (Try.f8.params.toList ++ (Rows.OpenSpec.upto Rows.spanOnceSpec).bare.plain.varTypes Try.prog) (ds ++ gs)).all (· ≤ reachBytes) = true := hsz0
  have hW' := hW
  obtain ⟨p, q, hA0, hV, rfl, hfz, hnd⟩ := hW
  have hA : DataW.TrodAll enc Try.prog W 0 (fun _ => true) true Try.f8.params.toList args.toList ds p := hA0
  rw [Try.params8] at hA hval hsz
  obtain ⟨v0, vs0, d0, ds0, p0, q0, hargs0, rfl, rfl, h0, r0⟩ := trodAll_cons hA
  obtain ⟨v1, vs1, d1, ds1, p1, q1, hargs1, rfl, rfl, h1, r1⟩ := trodAll_cons r0
  obtain ⟨v2, vs2, d2, ds2, p2, q2, hargs2, rfl, rfl, h2, r2⟩ := trodAll_cons r1
  obtain ⟨v3, vs3, d3, ds3, p3, q3, hargs3, rfl, rfl, h3, r3⟩ := trodAll_cons r2
  obtain ⟨rfl, rfl, rfl⟩ := trodAll_nil r3
  subst hargs3
  subst hargs2
  subst hargs1
  obtain rfl : args = #[v0, v1, v2, v3] := by cases args; simp_all
  obtain ⟨rfl, rfl⟩ := trodVars_none hV
  have hbulk := of_decide_eq_true hk
  simp only [Rows.uptoBulkAll, List.append_nil] at hbulk
  obtain ⟨lo0, hi0, op0, rfl, rfl, rfl, wl0, wh0⟩ := open_rg (hval 0 23 v0 rfl rfl) h0
  obtain ⟨a1, len1, cap1, rfl⟩ := okWide_slice Try.underlying33 (hval 1 33 v1 rfl rfl)
  have k1 := h1
  have lt1 : ∀ x ∈ p1, x.block < W.heap.size := by obtain ⟨m, hm⟩ := k1; exact DataW.trod_lt m _ _ _ hm
  have bl1 : len1 ≤ Rows.uptoBulk d1 := by
    obtain ⟨fuel, hf⟩ := h1
    exact bulk_slice Try.underlying33 (by simpa [Value.cells] using hf)
  obtain ⟨T1, w1, l1, f1⟩ : ∃ T, StrsIn W.heap.size W a1 len1 cap1 T ∧ len1 * 16 ≤ 140737488351232 ∧ ((a1 = none ∧ len1 = 0 ∧ cap1 = 0) ∨ ∃ x, a1 = some x) := by
    obtain ⟨fuel, hf⟩ := h1
    refine strs_open (enc := enc) (d := d1) (ps := p1) (fuel := fuel) (by simpa [Value.cells] using hf) ?_
    intro n hn
    have := List.all_eq_true.1 hsz n (DataW.weights_mem_each (j := 1) (t := 33) rfl rfl n hn)
    simpa using this
  obtain ⟨a2, len2, cap2, rfl⟩ := okWide_slice Try.underlying34 (hval 2 34 v2 rfl rfl)
  have k2 := h2
  have lt2 : ∀ x ∈ p2, x.block < W.heap.size := by obtain ⟨m, hm⟩ := k2; exact DataW.trod_lt m _ _ _ hm
  have bl2 : len2 ≤ Rows.uptoBulk d2 := by
    obtain ⟨fuel, hf⟩ := h2
    exact bulk_slice Try.underlying34 (by simpa [Value.cells] using hf)
  obtain ⟨T2, w2, l2, f2⟩ : ∃ T, RgsIn W.heap.size W a2 len2 cap2 T ∧ len2 * 40 ≤ 140737488351232 ∧ ((a2 = none ∧ len2 = 0 ∧ cap2 = 0) ∨ ∃ x, a2 = some x) := by
    obtain ⟨fuel, hf⟩ := h2
    refine rgs_open (enc := enc) (d := d2) (ps := p2) (fuel := fuel) (by simpa [Value.cells] using hf) ?_
    intro n hn
    have := List.all_eq_true.1 hsz n (DataW.weights_mem_each (j := 2) (t := 34) rfl rfl n hn)
    simpa using this
  obtain ⟨a3, len3, cap3, rfl⟩ := okWide_slice Try.underlying33 (hval 3 33 v3 rfl rfl)
  have k3 := h3
  have lt3 : ∀ x ∈ p3, x.block < W.heap.size := by obtain ⟨m, hm⟩ := k3; exact DataW.trod_lt m _ _ _ hm
  have bl3 : len3 ≤ Rows.uptoBulk d3 := by
    obtain ⟨fuel, hf⟩ := h3
    exact bulk_slice Try.underlying33 (by simpa [Value.cells] using hf)
  obtain ⟨T3, w3, l3, f3⟩ : ∃ T, StrsIn W.heap.size W a3 len3 cap3 T ∧ len3 * 16 ≤ 140737488351232 ∧ ((a3 = none ∧ len3 = 0 ∧ cap3 = 0) ∨ ∃ x, a3 = some x) := by
    obtain ⟨fuel, hf⟩ := h3
    refine strs_open (enc := enc) (d := d3) (ps := p3) (fuel := fuel) (by simpa [Value.cells] using hf) ?_
    intro n hn
    have := List.all_eq_true.1 hsz n (DataW.weights_mem_each (j := 3) (t := 33) rfl rfl n hn)
    simpa using this
  clear hA0 hval0 hsz0
  refine (once_walk lo0 hi0 op0 a1 len1 cap1 T1 a2 len2 cap2 T2 a3 len3 cap3 T3 W (max_of_shape hsh) w1 w2 w3 f1 f3 (by omega) (by omega)).mono fun e W' ⟨he, bel⟩ => ?_
  subst he
  exact ⟨_, rfl, _, _, _, [], _, [], hW', trodAll_mk1 (shut_bool Try.underlying4 _), (trodAll_cons_mk (shut_rg wl0 wh0) (trodAll_cons_mk (Below.trod laidOut (by kernel_rfl) (of_decide_eq_true (by kernel_rfl)) k1 bel lt1) (trodAll_cons_mk (Below.trod laidOut (by kernel_rfl) (of_decide_eq_true (by kernel_rfl)) k2 bel lt2) (trodAll_cons_mk (Below.trod laidOut (by kernel_rfl) (of_decide_eq_true (by kernel_rfl)) k3 bel lt3) trodAll_mk0)))), rfl, bel.frame _, fun h => by cases h⟩

theorem over : Rows.spanOnceUptoRow.holds Try.pinned (Rows.OpenSpec.upto Rows.spanOnceSpec) :=
  OpenClaim.holds_of_cond 8 Try.f8 rfl rfl rfl rfl rfl rfl rfl ⟨rfl, rfl, rfl, rfl, rfl⟩ rfl rfl rfl rfl rfl (by kernel_rfl) Try.func8 (by kernel_rfl)
    (of_decide_eq_true (by kernel_rfl)) (by unfold Func.isWrapper; first | (rw [if_pos (by decide +kernel)]; kernel_rfl) | (rw [if_neg (by decide +kernel)]; exact ⟨rfl, rfl⟩))
    (fun os started H enc _ F => lifted os started H enc F)

end Go.Proofs.Ytidajlnaehhkkaa.spanOnce
namespace Go.Proofs.Ytidajlnaehhkkaa
theorem spanOnce_holds : Rows.SpanOnceUptoSaid := spanOnce.over
end Go.Proofs.Ytidajlnaehhkkaa

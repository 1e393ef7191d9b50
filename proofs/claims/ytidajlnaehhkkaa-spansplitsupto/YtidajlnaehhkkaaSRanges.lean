/-
  ranges, the law's own: two lists that hold the same ranges are the same; and a copy of a list by append.
-/
import Derived.Test.YtidajlnaehhkkaaSCut
import Derived.Laws.StructEq
import Derived.Laws.AppendOwnNone
namespace Go.Proofs.Ytidajlnaehhkkaa
open Go.RowKit

set_option maxRecDepth 100000 in
set_option maxHeartbeats 2000000 in
theorem ranges_same (a a' : Option Addr) (len cap cap' : Nat) (T : Nat → Rg) (w : World) (h : RgsIn w.heap.size w a len cap T) (h' : RgsIn w.heap.size w a' len cap' T) :
    Calls Try.prog 22 #[.slice a len cap, .slice a' len cap'] w fun e w' => e = .returned (.bool true) ∧ Below w.heap.size w w' := by
  obtain ⟨hlc, hcm, hh⟩ := h
  obtain ⟨hlc', -, hh'⟩ := h'
  go_enter Try.func22, Try.ntmps22
  go_wp2
  go_loopw [13] (fun i wr => ∃ k : Nat, k ≤ len ∧ i = .int .i64 (k : Int) ∧ Below w.heap.size w wr) (fun i _ => len - (intOf i).toNat)
  case atStart => exact ⟨0, Nat.zero_le _, rfl, Below.refl _ _⟩
  case round =>
    obtain ⟨k, hk, rfl, hnx⟩ := hrel
    by_cases hlt : (k : Int) < (len : Int)
    · rcases hh with hh | ⟨b, off, rfl, hb, hc⟩
      · omega
      · rcases hh' with hh' | ⟨b', off', rfl, hb', hc'⟩
        · omega
        · obtain ⟨c0, c1, c2⟩ := hc k (by omega)
          obtain ⟨d0, d1, d2⟩ := hc' k (by omega)
          have c0' := (hnx.cell (p := ⟨b, off + k * 3, none⟩) hb).trans c0
          have c1' := (hnx.cell (p := ⟨b, off + k * 3 + 1, none⟩) hb).trans c1
          have c2' := (hnx.cell (p := ⟨b, off + k * 3 + 2, none⟩) hb).trans c2
          have d0' := (hnx.cell (p := ⟨b', off' + k * 3, none⟩) hb').trans d0
          have d1' := (hnx.cell (p := ⟨b', off' + k * 3 + 1, none⟩) hb').trans d1
          have d2' := (hnx.cell (p := ⟨b', off' + k * 3 + 2, none⟩) hb').trans d2
          have hk0 : (0 : Int) ≤ (k : Int) := by omega
          clear hc hc' c0 c1 c2 d0 d1 d2
          go_wp2_with fail
          go_region
          all_goals
            go_wp2
            go_roundw
            case rel => exact ⟨k + 1, by omega, by go_num, hnx.drew⟩
            case measure => simp [intOf]; omega
    · obtain rfl : len = k := by omega
      go_wp2
      go_ret
      exact ⟨rfl, hnx⟩

/-- A list, copied by append onto nothing. -/
theorem append_copy {w : World} {ops : Array Oper} {rest : List Oper} {o : Oper} {act : Act} {Q : Exit → Act → World → Prop} (hgd : o.guard = none) (s x : Operand)
    (ho : o.op = .call { callee := .builtin .append, args := #[s, x], argTypes := #[34, 34] })
    (hs : act.eval s = .slice none 0 0) (a : Option Addr) (len cap : Nat) (T : Nat → Rg) (hx : act.eval x = .slice a len cap) (hL : RgsIn w.heap.size w a len cap T) (hlen : len * 40 ≤ 140737488351232)
    (hform : (a = none ∧ len = 0 ∧ cap = 0) ∨ ∃ y, a = some y)
    (h : ∀ a' cap' w', RgsIn w'.heap.size w' a' len cap' T → Below w.heap.size w w' → wpList Try.prog ops Q rest (act.put o.dst (.slice a' len cap')) w') : wpList Try.prog ops Q (o :: rest) act w := by
  obtain ⟨i0, hi, hz0, hz1, hz2⟩ := info_parts info23
  have hnil : w.ownsRow w.heap.size 23 3 (.slice none 0 0) 0 [] := World.ownsRow_nil _ _ _ _
  obtain ⟨h1, h2, h3⟩ := hL
  rcases hform with ⟨rfl, rfl, rfl⟩ | ⟨y, rfl⟩
  · refine wpList_append_own_none hgd s x _ ho w.heap.size 23 i0 3 Try.underlying34 hi _ _ _ hs hnil hx ?_
    exact h none 0 w ⟨Nat.le_refl _, by omega, .inl rfl⟩ (Below.refl _ _)
  · have hcells : ∀ j u, (rgCells T len)[j]? = some u → w.cell? (y.add j) = some u := by
      intro j u hu
      rcases h3 with h3 | ⟨b, off, e, hb, hc⟩
      · subst h3; simp [rgCells] at hu
      · cases e
        have hj : j < len * 3 := by
          have := (List.getElem?_eq_some_iff.1 hu).1
          rw [rgCells_length] at this; exact this
        have hadd : ∀ j, (⟨b, off, none⟩ : Addr).add j = ⟨b, off + j, none⟩ := by intro j; unfold Addr.add; split <;> simp_all
        rw [hadd]
        obtain ⟨g0, g1, g2⟩ := rgCells_at T len (j / 3) (by omega)
        obtain ⟨q0, q1, q2⟩ := hc (j / 3) (by omega)
        have hm : j % 3 = 0 ∨ j % 3 = 1 ∨ j % 3 = 2 := by omega
        rcases hm with hm | hm | hm
        · have e : j = j / 3 * 3 := by omega
          rw [← e] at g0 q0
          rw [hu] at g0; rw [g0]; exact q0
        · have e : j = j / 3 * 3 + 1 := by omega
          rw [← e] at g1
          rw [hu] at g1; rw [g1, e, ← Nat.add_assoc, show j / 3 * 3 + 1 = j / 3 * 3 + 1 from rfl]
          have : (j / 3 * 3 + 1) / 3 = j / 3 := by omega
          rw [this]; exact q1
        · have e : j = j / 3 * 3 + 2 := by omega
          rw [← e] at g2
          rw [hu] at g2; rw [g2, e, ← Nat.add_assoc]
          have : (j / 3 * 3 + 2) / 3 = j / 3 := by omega
          rw [this]; exact q2
    have hone : ∀ u ∈ rgCells T len, u.oneCell' = true := by
      intro u hu
      obtain ⟨j, hj⟩ := List.getElem?_of_mem hu
      have hjl : j < len * 3 := by
        have := (List.getElem?_eq_some_iff.1 hj).1
        rw [rgCells_length] at this; exact this
      obtain ⟨g0, g1, g2⟩ := rgCells_at T len (j / 3) (by omega)
      have hm : j % 3 = 0 ∨ j % 3 = 1 ∨ j % 3 = 2 := by omega
      rcases hm with hm | hm | hm
      · rw [show j / 3 * 3 = j from by omega, hj] at g0; cases g0; rfl
      · rw [show j / 3 * 3 + 1 = j from by omega, hj] at g1; cases g1; rfl
      · rw [show j / 3 * 3 + 2 = j from by omega, hj] at g2; cases g2; rfl
    refine wpList_append_own w hgd s x _ ho w.heap.size 23 i0 (.agg #[.string ⟨#[]⟩, .string ⟨#[]⟩, .bool false]) 3 40 Try.underlying34 hi hz0 hz1 hz2 rfl (by decide) _ _ _ hs hnil y len cap (rgCells T len) hx (by rw [rgCells_length]) hcells hone (by unfold maxLen; omega) (by omega) (Nat.le_refl _) ?_
    intro v' w' ho' hg _
    have hbel : Below w.heap.size w w' := (Below.refl _ w).grown hg (Nat.le_refl _) (fun k e => by cases e)
    simp only [List.nil_append, Nat.zero_add] at ho'
    rcases ho'.2 with ⟨rfl, hz⟩ | ⟨g, cap', cur, rfl, hbase, hheap, hlc, -, -, -⟩
    · subst hz
      exact h none 0 w' ⟨Nat.le_refl _, by omega, .inl rfl⟩ hbel
    · exact h _ cap' w' (rgs_of_row ho' (Array.getElem?_eq_some_iff.1 hheap).1 (by omega)) hbel

end Go.Proofs.Ytidajlnaehhkkaa

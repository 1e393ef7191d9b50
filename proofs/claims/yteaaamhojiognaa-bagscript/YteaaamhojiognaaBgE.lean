/-
  slices.Grow of nil and slices.Concat of two lists of packets.
-/
import Derived.Test.YteaaamhojiognaaBgD
import Derived.Lib.AppendZeros
namespace Go.Proofs.Yteaaamhojiognaa
open Go.RowKit
set_option linter.unusedVariables false

/-- append(nil, make(n)...), as one operation. -/
theorem op_append_zeros {w : World} {o : Oper} {act : Act} {K : Act → World → Prop} {Q : Exit → Act → World → Prop} (s x : Operand)
    (ho : o.op = .call { callee := .builtin .append, args := #[s, x], argTypes := #[48, 3] })
    (n : Nat) (hs : act.eval s = .slice none 0 0) (hx : act.eval x = .int .i64 (n : Int)) (h0 : 0 < n) (hn : n ≤ 1048576)
    (h : ∀ g cap w', w'.ownsRow w.heap.size 39 4 (.slice (some ⟨g, 0, none⟩) 0 cap) 0 (pkCells []) → n ≤ cap → cap ≤ maxLen → Below w.heap.size w w' → K (act.put o.dst (.slice (some ⟨g, 0, none⟩) n cap)) w') : o.wp Try.prog act w K Q := by
  obtain ⟨i0, hi, hz0, hz1, hz2⟩ := info_parts infoPk
  have hr := Lib.run_append_nil_zeros (P := Try.prog) w 48 3 o.type 39 i0 _ .i64 .i64 Try.underlying48 Try.underlying3 hi hz0 n h0 (by omega) (by omega) (by rw [hz2]; omega)
  have hc1 := grownCap_ge w n 0 39
  have hc2 := grownCap_le_maxLen w n 0 39 (by unfold maxLen; omega)
  unfold Oper.wp execOp
  simp only [ho, resolve, invoke, builtin, Sem.run_bind, Sem.run_pure, Result.andThen_ok, List.map_toArray, List.map_cons, List.map_nil, hs, hx, hr]
  refine h _ _ _ ⟨rfl, .inr ⟨w.heap.size, _, _, rfl, Nat.le_refl _, heap_alloc_new w.drew _, Nat.zero_le _, hc2, ?_, rfl⟩⟩ hc1 hc2 ((Below.refl _ w).drew.alloc (Nat.le_refl _) _)
  simp only [Array.size_append, size_zeroCells, Value.cells, List.size_toArray, List.length_cons, List.length_nil]
  omega

set_option maxHeartbeats 3200000 in
theorem grow_any (n : Nat) (hn : n ≤ 1048576) (w : World) : Calls Try.prog 39 #[.slice none 0 0, .int .i64 (n : Int)] w fun e w' => ∃ v, e = .returned v ∧ w'.ownsRow w.heap.size 39 4 v 0 (pkCells []) ∧ Below w.heap.size w w' := by
  have h1 : ¬ ((n : Int) < 0) := by omega
  have HN := aside hn
  have hw1 : wrap64 (n : Int) = (n : Int) := by simp only [wrap64]; omega
  clear hn
  by_cases h0 : n = 0
  · subst h0
    go_enter Try.func39, Try.ntmps39
    go_wp2
    go_ret
    exact ⟨_, rfl, ⟨rfl, .inl ⟨rfl, rfl⟩⟩, Below.refl _ _⟩
  · have h2 : (0 : Int) < (n : Int) := by omega
    have HP := aside (show 0 < n from by omega)
    clear h0
    go_enter Try.func39, Try.ntmps39
    go_wp2_with (at_builtin; refine wpList_plain rfl fun K hK => op_append_zeros _ _ rfl n (by rfl) (congrArg (Value.int .i64) hw1) HP.out HN.out ?_; intro g5 c5 w5 own5 hc5 hm5 b5; refine hK _ _ ?_; refine Hid.out ?_)
    refine aside ?_
    have O5 := aside own5
    have B5 := aside b5
    have hc6 : (0 : Int) ≤ (c5 : Int) := by omega
    clear own5 b5
    go_wp2
    go_ret
    exact ⟨_, rfl, O5.out, B5.out⟩

set_option maxHeartbeats 6400000 in
theorem concat_any (s : Nat) (a1 : Option Addr) (n1 c1 : Nat) (l1 : List Pk) (a2 : Option Addr) (n2 c2 : Nat) (l2 : List Pk) (w : World) (hs : w.heap[s]? = some (.cells #[.slice a1 n1 c1, .slice a2 n2 c2] 48 (0, 0))) (h1 : PkIn w a1 n1 c1 l1) (h2 : PkIn w a2 n2 c2 l2) (hn : n1 + n2 ≤ 1048576) :
    Calls Try.prog 37 #[.slice (some ⟨s, 0, none⟩) 2 2] w fun e w' => ∃ v, e = .returned v ∧ w'.ownsRow w.heap.size 39 4 v (n1 + n2) (pkCells (l1 ++ l2)) ∧ Below w.heap.size w w' := by
  have HS := aside hs
  have H1 := aside h1
  have H2 := aside h2
  have HN := aside hn
  have s0 : w.cell? ⟨s, 0, none⟩ = some (.slice a1 n1 c1) := by rw [cell_of_row w s 0 _ _ _ hs]; rfl
  have s1 : w.cell? ⟨s, 1, none⟩ = some (.slice a2 n2 c2) := by rw [cell_of_row w s 1 _ _ _ hs]; rfl
  obtain ⟨m, hm⟩ : ∃ m, n1 + n2 = m := ⟨_, rfl⟩
  have HM := aside hm
  have hw0 : wrap64 (n1 : Int) = (n1 : Int) := by simp only [wrap64]; omega
  have hw1 : wrap64 ((n1 : Int) + (n2 : Int)) = (m : Int) := by simp only [wrap64]; omega
  have hg0 : ¬ ((n1 : Int) < 0) := by omega
  have hg1 : ¬ ((m : Int) < 0) := by omega
  clear hs h1 h2 hn hm
  go_enter Try.func37, Try.ntmps37
  go_wp2
  go_loopw [3, 11] (fun sz i wr => ((i = .int .i64 0 ∧ sz = .int .i64 0) ∨ (i = .int .i64 1 ∧ sz = .int .i64 (n1 : Int)) ∨ (i = .int .i64 2 ∧ sz = .int .i64 (m : Int))) ∧ w = wr) (fun _ i _ => 2 - (intOf i).toNat)
  case atStart => exact ⟨.inl ⟨rfl, rfl⟩, rfl⟩
  case round =>
    obtain ⟨⟨rfl, rfl⟩ | ⟨rfl, rfl⟩ | ⟨rfl, rfl⟩, rfl⟩ := hrel
    · go_wp2
      go_roundw
      case rel => first | exact ⟨.inr (.inl ⟨rfl, rfl⟩), rfl⟩ | (simp; first | exact hw0 | exact hw1)
      case measure => simp [intOf]
    · go_wp2
      go_roundw
      case rel => first | exact ⟨.inr (.inr ⟨rfl, rfl⟩), rfl⟩ | (simp; first | exact hw0 | exact hw1)
      case measure => simp [intOf]
    · clear s0 s1
      go_wp2_with fail
      refine (grow_any m (by have := HM.out; have := HN.out; omega) _).mono ?_
      rintro e w1 ⟨v1, rfl, own1, b1⟩
      have O1 := aside own1
      have B1 := aside b1
      obtain ⟨a, c, rfl, -⟩ := own_slice own1
      clear own1 b1
      go_wp2
      go_loopw [6, 27] (fun ns i wr => ∃ a9 n9 c9, ns = .slice a9 n9 c9 ∧ Hid (Below w.heap.size w wr) ∧ ((i = .int .i64 0 ∧ n9 = 0 ∧ Hid (wr.ownsRow w.heap.size 39 4 (.slice a9 n9 c9) n9 (pkCells []))) ∨ (i = .int .i64 1 ∧ n9 = n1 ∧ Hid (wr.ownsRow w.heap.size 39 4 (.slice a9 n9 c9) n9 (pkCells l1))) ∨ (i = .int .i64 2 ∧ n9 = m ∧ Hid (wr.ownsRow w.heap.size 39 4 (.slice a9 n9 c9) n9 (pkCells (l1 ++ l2)))))) (fun _ i _ => 2 - (intOf i).toNat)
      case atStart => exact ⟨_, _, _, rfl, B1.out, .inl ⟨rfl, rfl, O1.out⟩⟩
      case round =>
        clear O1 B1
        obtain ⟨a9, n9, c9, rfl, BB, ⟨rfl, rfl, OO⟩ | ⟨rfl, rfl, OO⟩ | ⟨rfl, rfl, OO⟩⟩ := hrel
        · obtain ⟨s0, s1⟩ : wr.cell? ⟨s, 0, none⟩ = some (.slice a1 n1 c1) ∧ wr.cell? ⟨s, 1, none⟩ = some (.slice a2 n2 c2) := by
            have hs := blk_on HS.out BB.out
            exact ⟨by rw [cell_of_row wr s 0 _ _ _ hs]; rfl, by rw [cell_of_row wr s 1 _ _ _ hs]; rfl⟩
          go_wp2_with (at_builtin; refine wpList_plain rfl fun K hK => op_append_pks _ _ rfl w.heap.size 0 n1 (.slice a9 0 c9) [] l1 (by rfl) OO.out a1 c1 (by rfl) (H1.out.on BB.out) (by have := HN.out; omega) BB.out.size ?_; intro v5 w5 own5 g5 at5; refine hK _ _ ?_; refine Hid.out ?_)
          refine aside ?_
          rw [Nat.zero_add, List.nil_append] at own5
          obtain ⟨a5, c5, rfl, -⟩ := own_slice own5
          have O5 := aside own5
          have B5 := aside (BB.out.grown g5 BB.out.size (fun k hk => (OO.out.lt k hk).1))
          clear own5 g5 at5 s0 s1 BB OO
          go_wp2
          go_roundw
          case rel => exact ⟨_, _, _, rfl, B5.out, .inr (.inl ⟨rfl, rfl, O5.out⟩)⟩
          case measure => simp [intOf]
        · obtain ⟨s0, s1⟩ : wr.cell? ⟨s, 0, none⟩ = some (.slice a1 n9 c1) ∧ wr.cell? ⟨s, 1, none⟩ = some (.slice a2 n2 c2) := by
            have hs := blk_on HS.out BB.out
            exact ⟨by rw [cell_of_row wr s 0 _ _ _ hs]; rfl, by rw [cell_of_row wr s 1 _ _ _ hs]; rfl⟩
          go_wp2_with (at_builtin; refine wpList_plain rfl fun K hK => op_append_pks _ _ rfl w.heap.size n9 n2 (.slice a9 n9 c9) l1 l2 (by rfl) OO.out a2 c2 (by rfl) (H2.out.on BB.out) (by have := HN.out; omega) BB.out.size ?_; intro v5 w5 own5 g5 at5; refine hK _ _ ?_; refine Hid.out ?_)
          refine aside ?_
          rw [HM.out] at own5
          obtain ⟨a5, c5, rfl, -⟩ := own_slice own5
          have O5 := aside own5
          have B5 := aside (BB.out.grown g5 BB.out.size (fun k hk => (OO.out.lt k hk).1))
          clear own5 g5 at5 s0 s1 BB OO
          go_wp2
          go_roundw
          case rel => exact ⟨_, _, _, rfl, B5.out, .inr (.inr ⟨rfl, rfl, O5.out⟩)⟩
          case measure => simp [intOf]
        · go_wp2
          go_ret
          rw [HM.out]
          exact ⟨_, rfl, OO.out, BB.out⟩
end Go.Proofs.Yteaaamhojiognaa

/-
  What the laws on lists need: the bound of sizes, a list appended to a row, the empty row, what All says of a row.
-/
import Derived.Test.YtccfhegckdmanaaDoorTaAll
import Derived.Test.YtccfhegckdmanaaDoorMTurn2
namespace Go.Proofs.YtccfhegckdmanaaDoor
open Go.RowKit
set_option linter.unusedVariables false

/-- An empty row in a block of its own. -/
theorem own_empty (w : World) (B : Nat) (h : B ≤ w.heap.size) : (w.alloc (.cells #[] 32)).ownsRow B 32 5 (.slice (some ⟨w.heap.size, 0, none⟩) 0 0) 0 (entCells []) := by
  refine ⟨rfl, .inr ⟨w.heap.size, 0, #[], rfl, h, heap_alloc_new w _, Nat.le_refl _, Nat.zero_le _, rfl, rfl⟩⟩

/-- A list that came in, appended to an owned row, as one operation. -/
theorem op_append_list {V w : World} {o : Oper} {act : Act} {K : Act → World → Prop} {Q : Exit → Act → World → Prop} (s x : Operand)
    (ho : o.op = .call { callee := .builtin .append, args := #[s, x], argTypes := #[22, 22] })
    (n : Nat) (v : Value) (A : List En) (hs : act.eval s = v) (hA : w.ownsRow V.heap.size 32 5 v n (entCells A)) (a : Option Addr) (len cap : Nat) (T : Nat → En) (hx : act.eval x = .slice a len cap) (hL : EntsIn w a len cap T)
    (hform : (a = none ∧ len = 0 ∧ cap = 0) ∨ ∃ y, a = some y) (hlen : (n + len) * 56 ≤ 140737488351232) (hB : Below V.heap.size V w)
    (h : ∀ v' w', w'.ownsRow V.heap.size 32 5 v' (n + len) (entCells (A ++ firstE T len)) → Below V.heap.size V w' → K (act.put o.dst v') w') : o.wp Tryd.prog act w K Q := by
  obtain ⟨i0, hi, hz0, hz1, hz2⟩ := info_parts infoEnt
  rcases hform with ⟨rfl, rfl, rfl⟩ | ⟨y, rfl⟩
  · have hrun := run_append_owned_none (P := Tryd.prog) (w := w) V.heap.size 22 o.type 32 i0 5 Tryd.underlying22 hi _ _ _ hA
    unfold Oper.wp
    simp [execOp, ho, resolve, invoke, builtin, hs, hx, hrun, Result.andThen]
    have hA' : w.ownsRow V.heap.size 32 5 v (n + 0) (entCells (A ++ firstE T 0)) := by rw [show firstE T 0 = [] from rfl, List.append_nil]; exact hA
    exact h v w hA' hB
  · refine wp_append_own w s x _ ho V.heap.size 32 i0 _ 5 56 Tryd.underlying22 hi hz0 hz1 hz2 rfl (by decide) _ _ _ hs hA y len cap (entCells ((List.range len).map T)) hx (by rw [entCells_length]; simp) (ents_cells hL) (entCells_one _) (by unfold maxLen; omega) (by omega) hB.size ?_
    intro v' w' ho' hg' _
    rw [← entCells_append] at ho'
    exact h v' w' ho' (hB.grown hg' hB.size (fun k hk => (hA.lt k hk).1))

/-- What a list of entries comes to, as a tally. -/
def talLv (l : List En) : Value := .agg #[.int .i64 (l.length : Int), .int .u64 (allI f0 l), .int .u64 (allI f1 l)]

theorem talT_first (T : Nat → En) (n : Nat) : talT T n = talLv (firstE T n) := by simp [talT, talLv, firstE]

theorem talT_row (l : List En) (n : Nat) (h : l.length = n) : talT (fun i => nthE l (0 + i)) n = talLv l := by
  rw [talT_first, firstE_part l 0 n (by omega), List.drop_zero, List.take_of_length_le (by omega)]

/-- All of a whole row, wherever it lies. -/
theorem tall_row {X : World} {B n : Nat} {v : Value} {l : List En} (own : X.ownsRow B 32 5 v n (entCells l)) (hk : KeysOk l) (L : Lanes X) :
    Calls Tryd.prog 10 #[v] X fun e w' => e = .returned (talLv l) ∧ Below X.heap.size X w' := by
  have hl : l.length = n := by have := own.1; rw [entCells_length] at this; omega
  obtain ⟨a, c, rfl, hn, hm, hform⟩ := own_slice own
  have hE : EntsIn X a n c (fun i => nthE l (0 + i)) := by
    rcases hform with ⟨rfl, rfl, rfl⟩ | ⟨g, rfl, hb⟩
    · exact ⟨Nat.le_refl _, Nat.zero_le _, .inl rfl⟩
    · exact ents_of_row own hk (o := 0) (by omega) hn hm (.inr rfl)
  rw [← talT_row l n hl]
  exact tall_any a n c _ X L hE

theorem tallRef_row {X : World} {B n : Nat} {v : Value} {l : List En} (own : X.ownsRow B 32 5 v n (entCells l)) (hk : KeysOk l) :
    Calls Tryd.prog 11 #[v] X fun e w' => e = .returned (talLv l) ∧ Below X.heap.size X w' := by
  have hl : l.length = n := by have := own.1; rw [entCells_length] at this; omega
  obtain ⟨a, c, rfl, hn, hm, hform⟩ := own_slice own
  have hE : EntsIn X a n c (fun i => nthE l (0 + i)) := by
    rcases hform with ⟨rfl, rfl, rfl⟩ | ⟨g, rfl, hb⟩
    · exact ⟨Nat.le_refl _, Nat.zero_le _, .inl rfl⟩
    · exact ents_of_row own hk (o := 0) (by omega) hn hm (.inr rfl)
  rw [← talT_row l n hl]
  exact tallRef_any a n c _ X hE

theorem keys_first {w : World} {a : Option Addr} {len cap : Nat} {T : Nat → En} (h : EntsIn w a len cap T) : KeysOk (firstE T len) := by
  intro e he
  simp only [firstE, List.mem_map, List.mem_range] at he
  obtain ⟨i, hi, rfl⟩ := he
  rcases h.2.2 with h0 | ⟨b, off, -, -, hc⟩
  · omega
  · exact (hc i hi).2

theorem keys_both {l m : List En} (h : KeysOk l) (h2 : KeysOk m) : KeysOk (l ++ m) := by
  intro e he
  rcases List.mem_append.1 he with he | he
  · exact h e he
  · exact h2 e he

/-- What 'beyond' says of a list with that many entries. -/
def BySize (len : Nat) (q : Bool) : Prop := q = false → len ≤ 1073741824

/-- What 'beyond' answers, named. -/
def BySays (w : World) (len : Nat) (e : Ending) (w' : World) : Prop := ∃ q, e = .returned (.bool q) ∧ BySize len q ∧ Below w.heap.size w w'

theorem by_step (c x y : Nat) (hc : c ≤ 1073741824) : Value.int .i64 (IntKind.i64.wrap ((c : Int) + IntKind.i64.wrap ((if (1073741824 : Int) < (x : Int) then 1073741824 else (x : Int)) + if (1073741824 : Int) < (y : Int) then 1073741824 else (y : Int)))) = .int .i64 ((c + (min x 1073741824 + min y 1073741824) : Nat) : Int) := by
  congr 1
  rw [IntKind.wrap_i64, IntKind.wrap_i64]
  split <;> split <;> omega

/-- The loop of 'beyond': the number so far, and how many entries were met. -/
def ByRel (w : World) (len : Nat) (n i : Value) (wr : World) : Prop :=
  ∃ (j c : Nat), n = .int .i64 (c : Int) ∧ i = .int .i64 (j : Int) ∧ j ≤ len ∧ len ≤ c ∧ (c ≤ 3221225472 ∨ (c = len ∧ c ≤ 9223372036854775807)) ∧ Below w.heap.size w wr

set_option maxHeartbeats 3200000 in
set_option maxRecDepth 100000 in
theorem beyond_any (a : Option Addr) (len cap : Nat) (T : Nat → En) (w : World) (h : EntsIn w a len cap T) :
    Calls Tryd.prog 5 #[.slice a len cap] w fun e w' => BySays w len e w' := by
  have HE := aside h
  obtain ⟨hlc, hcm, -⟩ := h
  have hmx : (len : Int) ≤ 9223372036854775807 := by unfold maxLen at hcm; omega
  clear hlc hcm
  go_enter Tryd.func5, Tryd.ntmps5
  go_wp2
  go_loopw [3, 4] (fun n i wr => ByRel w len n i wr) (fun _ i _ => len - (intOf i).toNat)
  case atStart => exact ⟨0, len, rfl, rfl, Nat.zero_le _, Nat.le_refl _, .inr ⟨rfl, by omega⟩, Below.refl _ _⟩
  case round =>
    obtain ⟨j, c, rfl, rfl, hj, hlc, hc, hB⟩ := hrel
    have HB := aside hB
    clear hB
    by_cases hlt : (j : Int) < (len : Int)
    · by_cases hle : (c : Int) ≤ 1073741824
      · have hE := HE.out.keep HB.out
        rcases hE.2.2 with h0 | ⟨b, off, rfl, hb, hcc⟩
        · omega
        · obtain ⟨⟨c0, c1, c2, c3, c4⟩, hkk⟩ := hcc j (by omega)
          clear hcc hE
          generalize T j = t at *
          have hj0 : (0 : Int) ≤ (j : Int) := by omega
          clear hc
          go_wp2_with fail
          refine wp_region_held_drew (S := fun W => Below w.heap.size w W ∧ W.cell? ⟨b, off + j * 5, none⟩ = some (.string t.k) ∧ W.cell? ⟨b, off + j * 5 + 3, none⟩ = some (.string t.v)) (by kernel_rfl) ⟨HB.out.drew, c0, c3⟩ (fun hHeld => ?_)
          refine wpAnyH_take (i := 0) (v := ?_) rfl (by kernel_rfl) (by kernel_rfl) (by kernel_rfl) (fun _ _ _ h => h) (Or.inl ⟨by rfl, ?_⟩) (by assumption) ?_
          rotate_left
          · intro w hSw
            go_simp
            try with_reducible rfl
          simp only [Act.put, List.getElem_toArray, List.getElem_cons_zero, List.setIfInBounds_toArray, List.set_cons_zero, List.set_cons_succ]
          refine wpAnyH_take (i := 1) (v := ?_) rfl (by kernel_rfl) (by kernel_rfl) (by kernel_rfl) (fun _ _ _ h => h) (Or.inl ⟨by rfl, ?_⟩) (by assumption) ?_
          rotate_left
          · intro w hSw
            go_simp
            try with_reducible rfl
          simp only [Act.put, List.getElem_toArray, List.getElem_cons_zero, List.getElem_cons_succ, List.setIfInBounds_toArray, List.set_cons_zero, List.set_cons_succ]
          refine wpAnyH_take (i := 2) (v := ?_) rfl (by kernel_rfl) (by kernel_rfl) (by kernel_rfl) (fun _ _ _ h => h) (Or.inl ⟨by rfl, ?_⟩) (by assumption) ?_
          rotate_left
          · intro w hSw
            go_simp
            try with_reducible rfl
          simp only [Act.put, List.getElem_toArray, List.getElem_cons_zero, List.getElem_cons_succ, List.setIfInBounds_toArray, List.set_cons_zero, List.set_cons_succ]
          refine wpAnyH_take (i := 3) (v := ?_) rfl (by kernel_rfl) (by kernel_rfl) (by kernel_rfl) (fun _ _ _ h => h) (Or.inl ⟨by rfl, ?_⟩) (by assumption) ?_
          rotate_left
          · intro w hSw
            go_simp
            try with_reducible rfl
          simp only [Act.put, List.getElem_toArray, List.getElem_cons_zero, List.getElem_cons_succ, List.setIfInBounds_toArray, List.set_cons_zero, List.set_cons_succ]
          refine wpAnyH_take (i := 4) (v := ?_) rfl (by kernel_rfl) (by kernel_rfl) (by kernel_rfl) (fun _ _ _ h => h) (Or.inl ⟨by rfl, ?_⟩) (by assumption) ?_
          rotate_left
          · intro w hSw
            go_simp
            try with_reducible rfl
          simp only [Act.put, List.getElem_toArray, List.getElem_cons_zero, List.getElem_cons_succ, List.setIfInBounds_toArray, List.set_cons_zero, List.set_cons_succ]
          refine wpAnyH_take (i := 5) (v := ?_) rfl (by kernel_rfl) (by kernel_rfl) (by kernel_rfl) (fun _ _ _ h => h) (Or.inl ⟨by rfl, ?_⟩) (by assumption) ?_
          rotate_left
          · intro w hSw
            go_simp
            try with_reducible rfl
          simp only [Act.put, List.getElem_toArray, List.getElem_cons_zero, List.getElem_cons_succ, List.setIfInBounds_toArray, List.set_cons_zero, List.set_cons_succ]
          refine wpAnyH_take (i := 6) (v := ?_) rfl (by kernel_rfl) (by kernel_rfl) (by kernel_rfl) (fun _ _ _ h => h) (Or.inl ⟨by rfl, ?_⟩) (by assumption) ?_
          rotate_left
          · intro w hSw
            go_simp
            try with_reducible rfl
          simp only [Act.put, List.getElem_toArray, List.getElem_cons_zero, List.getElem_cons_succ, List.setIfInBounds_toArray, List.set_cons_zero, List.set_cons_succ]
          refine wpAnyH_take (i := 7) (v := ?_) rfl (by kernel_rfl) (by kernel_rfl) (by kernel_rfl) (fun _ _ _ h => h) (Or.inl ⟨by rfl, ?_⟩) (by assumption) ?_
          rotate_left
          · intro w hSw
            go_simp
            try with_reducible rfl
          simp only [Act.put, List.getElem_toArray, List.getElem_cons_zero, List.getElem_cons_succ, List.setIfInBounds_toArray, List.set_cons_zero, List.set_cons_succ]
          refine wpAnyH_take (i := 8) (v := ?_) rfl (by kernel_rfl) (by kernel_rfl) (by kernel_rfl) (fun _ _ _ h => h) (Or.inl ⟨by rfl, ?_⟩) (by assumption) ?_
          rotate_left
          · intro w hSw
            go_simp
            try with_reducible rfl
          simp only [Act.put, List.getElem_toArray, List.getElem_cons_zero, List.getElem_cons_succ, List.setIfInBounds_toArray, List.set_cons_zero, List.set_cons_succ]
          refine wpAnyH_take (i := 9) (v := ?_) rfl (by kernel_rfl) (by kernel_rfl) (by kernel_rfl) (fun _ _ _ h => h) (Or.inl ⟨by rfl, ?_⟩) (by assumption) ?_
          rotate_left
          · intro w hSw
            go_simp
            try with_reducible rfl
          simp only [Act.put, List.getElem_toArray, List.getElem_cons_zero, List.getElem_cons_succ, List.setIfInBounds_toArray, List.set_cons_zero, List.set_cons_succ]
          refine wpAnyH_take (i := 10) (v := ?_) rfl (by kernel_rfl) (by kernel_rfl) (by kernel_rfl) (fun _ _ _ h => h) (Or.inl ⟨by rfl, ?_⟩) (by assumption) ?_
          rotate_left
          · intro w hSw
            go_simp
            try with_reducible rfl
          simp only [Act.put, List.getElem_toArray, List.getElem_cons_zero, List.getElem_cons_succ, List.setIfInBounds_toArray, List.set_cons_zero, List.set_cons_succ]
          refine wpAnyH_take (i := 11) (v := ?_) rfl (by kernel_rfl) (by kernel_rfl) (by kernel_rfl) (fun _ _ _ h => h) (Or.inl ⟨by rfl, ?_⟩) (by assumption) ?_
          rotate_left
          · intro w hSw
            go_simp
            try with_reducible rfl
          simp only [Act.put, List.getElem_toArray, List.getElem_cons_zero, List.getElem_cons_succ, List.setIfInBounds_toArray, List.set_cons_zero, List.set_cons_succ]
          refine wpAnyH_take (i := 12) (v := ?_) rfl (by kernel_rfl) (by kernel_rfl) (by kernel_rfl) (fun _ _ _ h => h) (Or.inl ⟨by rfl, ?_⟩) (by assumption) ?_
          rotate_left
          · intro w hSw
            go_simp
            try with_reducible rfl
          simp only [Act.put, List.getElem_toArray, List.getElem_cons_zero, List.getElem_cons_succ, List.setIfInBounds_toArray, List.set_cons_zero, List.set_cons_succ]
          refine wpAnyH_take (i := 13) (v := ?_) rfl (by kernel_rfl) (by kernel_rfl) (by kernel_rfl) (fun _ _ _ h => h) (Or.inl ⟨by rfl, ?_⟩) (by assumption) ?_
          rotate_left
          · intro w hSw
            go_simp
            try with_reducible rfl
          simp only [Act.put, List.getElem_toArray, List.getElem_cons_zero, List.getElem_cons_succ, List.setIfInBounds_toArray, List.set_cons_zero, List.set_cons_succ]
          refine wpAnyH_take (i := 14) (v := ?_) rfl (by kernel_rfl) (by kernel_rfl) (by kernel_rfl) (fun _ _ _ h => h) (Or.inl ⟨by rfl, ?_⟩) (by assumption) ?_
          rotate_left
          · intro w hSw
            go_simp
            try with_reducible rfl
          simp only [Act.put, List.getElem_toArray, List.getElem_cons_zero, List.getElem_cons_succ, List.setIfInBounds_toArray, List.set_cons_zero, List.set_cons_succ]
          refine wpAnyH_take (i := 15) (v := ?_) rfl (by kernel_rfl) (by kernel_rfl) (by kernel_rfl) (fun _ _ _ h => h) (Or.inl ⟨by rfl, ?_⟩) (by assumption) ?_
          rotate_left
          · intro w hSw
            go_simp
            try with_reducible rfl
          simp only [Act.put, List.getElem_toArray, List.getElem_cons_zero, List.getElem_cons_succ, List.setIfInBounds_toArray, List.set_cons_zero, List.set_cons_succ]
          refine wpAnyH_take (i := 16) (v := ?_) rfl (by kernel_rfl) (by kernel_rfl) (by kernel_rfl) (fun _ _ _ h => h) (Or.inl ⟨by rfl, ?_⟩) (by assumption) ?_
          rotate_left
          · intro w hSw
            go_simp
            try with_reducible rfl
          simp only [Act.put, List.getElem_toArray, List.getElem_cons_zero, List.getElem_cons_succ, List.setIfInBounds_toArray, List.set_cons_zero, List.set_cons_succ]
          refine wpAnyH_take (i := 17) (v := ?_) rfl (by kernel_rfl) (by kernel_rfl) (by kernel_rfl) (fun _ _ _ h => h) (Or.inl ⟨by rfl, ?_⟩) (by assumption) ?_
          rotate_left
          · intro w hSw
            go_simp
            try with_reducible rfl
          simp only [Act.put, List.getElem_toArray, List.getElem_cons_zero, List.getElem_cons_succ, List.setIfInBounds_toArray, List.set_cons_zero, List.set_cons_succ]
          refine wpAnyH_done (by kernel_rfl) ?_ _
          have HB2 := aside hHeld.1
          clear hHeld
          go_wp2
          go_roundw
          case rel => exact ⟨j + 1, c + (min t.k.size 1073741824 + min t.v.size 1073741824), by_step c _ _ (by omega), by push_cast; rfl, by omega, by omega, .inl (by omega), HB2.out⟩
          case measure => simp [intOf]; omega
      · go_wp2
        go_ret
        exact ⟨true, rfl, fun hq => by simp at hq, HB.out⟩
    · have hjl : j = len := by omega
      go_wp2
      go_ret
      exact ⟨decide ((1073741824 : Int) < (c : Int)), rfl, fun hq => by simp at hq; omega, HB.out⟩

end Go.Proofs.YtccfhegckdmanaaDoor

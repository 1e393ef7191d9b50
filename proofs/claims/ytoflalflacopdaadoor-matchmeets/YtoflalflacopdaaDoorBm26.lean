/-
  The document's Load: a store of its own, just if one can be made.
  What entries come to: the document's All.
  The document's store: what All goes through, what Fold tells.
  What a store holds in a range, collected into a list.
  Lists of parts in memory.
  The code's small calls on parts and frames.
-/
import Derived.Test.YtoflalflacopdaaDoorBm15
import Derived.Test.YtoflalflacopdaaDoorBm17
import Derived.Test.YtoflalflacopdaaDoorBm12
import Derived.Test.YtoflalflacopdaaDoorBm14
import Derived.Test.YtoflalflacopdaaDoorBm3
import Derived.Test.YtoflalflacopdaaDoorBm2
import Derived.Deep.RegionWith
import Derived.Test.YtoflalflacopdaaDoorBm22
import Derived.Test.YtoflalflacopdaaDoorBm25
import Derived.Test.YtoflalflacopdaaDoorBm23
import Derived.Test.YtoflalflacopdaaDoorBm1
import Derived.Laws.StructEq
import Derived.Deep.RegionHeld
namespace Go.Proofs.YtoflalflacopdaaDoor
open Go.RowKit
set_option linter.unusedVariables false
/-- A store of the document's: its block, and the row of its entries. -/
def DSt (w : World) (B db : Nat) (nd ck : Int) (l : List En) : Prop := ∃ v, w.heap[db]? = some (.cells #[.int .i64 nd, .int .i64 ck, v] 153 (0, 0)) ∧ w.ownsRow B 33 5 v l.length (entCells l)
theorem DSt.below {w w' : World} {B db : Nat} {nd ck : Int} {l : List En} (h : DSt w B db nd ck l) (b : Below w.heap.size w w') : DSt w' B db nd ck l := by
  obtain ⟨v, h1, h2⟩ := h
  exact ⟨v, blk_on h1 b, own_on h2 b⟩
/-- What Load says. -/
def LdSay (w : World) (nd ck : Int) (l : List En) (e : Ending) (w' : World) : Prop :=
  (LdOk nd ck l ∧ ∃ db, e = .returned (.tuple #[.pointer (some ⟨db, 0, none⟩), .int .i64 0]) ∧ w.heap.size ≤ db ∧ DSt w' w.heap.size db nd ck l) ∨ (¬ LdOk nd ck l ∧ ∃ c, c ≠ 0 ∧ e = .returned (.tuple #[.pointer none, .int .i64 c]))
theorem ldOk_of {nd ck : Int} {T : Nat → En} {len : Nat} (h1 : nodeB nd = true) (h3 : ¬ ck < 0) (h4 : ¬ 1099511627776 < ck) (h5 : ¬ (256 : Int) < (len : Int)) (hc : ckN T len = 0 ∧ ∀ i, i < len → (T i).c ≤ ck) : LdOk nd ck (firstE T len) :=
  ⟨h1, by omega, by omega, by rw [firstE_len]; omega, (ck_map len).1 hc.1, fun e he => by
    unfold firstE at he
    obtain ⟨i, hi, rfl⟩ := List.mem_map.1 he
    exact hc.2 i (List.mem_range.1 hi)⟩
set_option maxHeartbeats 3200000 in
set_option maxRecDepth 100000 in
theorem rload (nd ck : Int) (a : Option Addr) (len cap : Nat) (T : Nat → En) (w : World) (h : EntsIn w a len cap T) (hform : (a = none ∧ len = 0 ∧ cap = 0) ∨ ∃ y, a = some y) :
    Calls Tryd.prog 48 #[.int .i64 nd, .int .i64 ck, .slice a len cap] w fun e w' => Below w.heap.size w w' ∧ LdSay w nd ck (firstE T len) e w' := by
  have HE := aside h
  obtain ⟨hlc, hcm, -⟩ := h
  have hmx : (len : Int) ≤ 9223372036854775807 := by unfold maxLen at hcm; omega
  clear hlc hcm
  by_cases h1 : nd < 0
  · have HB := aside (node_no1 h1)
    go_enter Tryd.func48, Tryd.ntmps48
    go_wp2
    go_ret2
    exact ⟨Below.refl _ _, .inr ⟨fun k => by have := k.nd; first | (rw [HB.out] at this; cases this) | (simp only [firstE_len] at this; omega) | omega, _, by decide, rfl⟩⟩
  by_cases h2 : 8 ≤ nd
  · have HB := aside (node_no2 h2)
    go_enter Tryd.func48, Tryd.ntmps48
    go_wp2
    go_ret2
    exact ⟨Below.refl _ _, .inr ⟨fun k => by have := k.nd; first | (rw [HB.out] at this; cases this) | (simp only [firstE_len] at this; omega) | omega, _, by decide, rfl⟩⟩
  have HN := aside (node_yes h1 h2)
  by_cases h3 : ck < 0
  · have HB := aside h3
    go_enter Tryd.func48, Tryd.ntmps48
    go_wp2
    go_ret2
    exact ⟨Below.refl _ _, .inr ⟨fun k => by have := k.c0; first | (rw [HB.out] at this; cases this) | (simp only [firstE_len] at this; omega) | omega, _, by decide, rfl⟩⟩
  by_cases h4 : 1099511627776 < ck
  · have HB := aside h4
    go_enter Tryd.func48, Tryd.ntmps48
    go_wp2
    go_ret2
    exact ⟨Below.refl _ _, .inr ⟨fun k => by have := k.c1; first | (rw [HB.out] at this; cases this) | (simp only [firstE_len] at this; omega) | omega, _, by decide, rfl⟩⟩
  by_cases h5 : (256 : Int) < (len : Int)
  · have HB := aside h5
    go_enter Tryd.func48, Tryd.ntmps48
    go_wp2
    go_ret2
    exact ⟨Below.refl _ _, .inr ⟨fun k => by have := k.len; first | (rw [HB.out] at this; cases this) | (simp only [firstE_len] at this; omega) | omega, _, by decide, rfl⟩⟩
  have H3 := aside h3
  have H4 := aside h4
  have H5 := aside h5
  have HF := aside hform
  clear hform
  go_enter Tryd.func48, Tryd.ntmps48
  go_wp2
  clear h1 h2 h3 h4
  go_loopw [30] (fun i wr => ∃ j : Nat, i = .int .i64 (j : Int) ∧ j ≤ len ∧ Hid (ckN T j = 0 ∧ ∀ i, i < j → (T i).c ≤ ck) ∧ Below w.heap.size w wr) (fun i _ => len - (intOf i).toNat)
  case atStart => exact ⟨0, rfl, Nat.zero_le _, ⟨rfl, fun i hi => by omega⟩, Below.refl _ _⟩
  case round =>
    obtain ⟨j, rfl, hj, HC, hB⟩ := hrel
    have HB := aside hB
    clear hB
    by_cases hlt : (j : Int) < (len : Int)
    · have hE := HE.out.keep HB.out
      rcases hE.2.2 with h0 | ⟨b, off, rfl, hb, hc⟩
      · omega
      obtain ⟨⟨c0, c1, c2, c3, c4⟩, -⟩ := hc j (by omega)
      obtain ⟨q, hq⟩ : ∃ q, (T j).chk = q := ⟨_, rfl⟩
      have HQ := aside hq
      have hj0 : (0 : Int) ≤ (j : Int) := by omega
      have HCC := aside hc
      clear hc hE
      obtain ⟨t, ht⟩ : ∃ t, T j = t := ⟨_, rfl⟩
      have HT := aside ht
      rw [ht] at c0 c1 c2 c3 c4 hq
      have CQ := aside (fun W => chk_of t W hq _ ichkRef_any)
      clear ht hq
      by_cases hq0 : q = 0
      · subst hq0
        go_wp2_with fail
        refine (CQ.out _).mono ?_
        rintro e w1 ⟨rfl, b1⟩
        have B2 := aside (HB.out.trans ((bthen (bnew wr (.cells #[.string t.k, .int .i64 t.c, .int .i64 t.n, .string t.v, .bool t.d] 33)) b1).mono HB.out.size))
        have kb := blk_on (heap_alloc_new wr (.cells #[.string t.k, .int .i64 t.c, .int .i64 t.n, .string t.v, .bool t.d] 33)) b1
        obtain ⟨⟨e0, e1, -⟩, -⟩ := box5 kb
        generalize wr.heap.size = g at *
        have HC2 := aside (fun (i : Nat) (hi : i < len) => cell_in (HCC.out i hi).1.1 (bthen (bnew wr _) b1))
        clear b1 c0 c1 c2 c3 c4 kb CQ HCC
        cases j with
        | zero =>
          go_wp2_with fail
          refine wp_region_held_drew (S := fun W => Below w.heap.size w W ∧ W.cell? ⟨g, 1, none⟩ = some (.int .i64 t.c)) (by kernel_rfl) ⟨B2.out.drew, e1⟩ (fun hHeld => ?_)
          refine wpAnyH_take (i := 0) (v := ?_) rfl (by kernel_rfl) (by kernel_rfl) (by kernel_rfl) (fun _ _ _ h => h) (Or.inl ⟨by rfl, ?_⟩) (by assumption) ?_
          rotate_left
          · intro w hSw
            go_simp
            try with_reducible rfl
          simp only [Act.put, List.getElem_toArray, List.getElem_cons_zero, List.setIfInBounds_toArray, List.set_cons_zero, List.set_cons_succ]
          refine wpAnyH_take (i := 1) (v := ?_) rfl (by kernel_rfl) (by kernel_rfl) (by kernel_rfl) (fun _ _ _ h => h) (Or.inl ⟨by rfl, ?_⟩) (by assumption) ?_
          rotate_left
          · intro w hSw
            go_simp
            try with_reducible rfl
          simp only [Act.put, List.getElem_toArray, List.getElem_cons_zero, List.getElem_cons_succ, List.setIfInBounds_toArray, List.set_cons_zero, List.set_cons_succ]
          refine wpAnyH_take (i := 2) (v := ?_) rfl (by kernel_rfl) (by kernel_rfl) (by kernel_rfl) (fun _ _ _ h => h) (Or.inl ⟨by rfl, ?_⟩) (by assumption) ?_
          rotate_left
          · intro w hSw
            go_simp
            try with_reducible rfl
          simp only [Act.put, List.getElem_toArray, List.getElem_cons_zero, List.getElem_cons_succ, List.setIfInBounds_toArray, List.set_cons_zero, List.set_cons_succ]
          refine wpAnyH_take (i := 3) (v := undef) rfl (by kernel_rfl) (by kernel_rfl) (by kernel_rfl) (fun _ _ _ h => h) (Or.inr ⟨by rfl, rfl⟩) (by assumption) ?_
          simp only [Act.put, List.getElem_toArray, List.getElem_cons_zero, List.getElem_cons_succ, List.setIfInBounds_toArray, List.set_cons_zero, List.set_cons_succ]
          refine wpAnyH_take (i := 4) (v := undef) rfl (by kernel_rfl) (by kernel_rfl) (by kernel_rfl) (fun _ _ _ h => h) (Or.inr ⟨by rfl, rfl⟩) (by assumption) ?_
          simp only [Act.put, List.getElem_toArray, List.getElem_cons_zero, List.getElem_cons_succ, List.setIfInBounds_toArray, List.set_cons_zero, List.set_cons_succ]
          refine wpAnyH_take (i := 5) (v := undef) rfl (by kernel_rfl) (by kernel_rfl) (by kernel_rfl) (fun _ _ _ h => h) (Or.inr ⟨by rfl, rfl⟩) (by assumption) ?_
          simp only [Act.put, List.getElem_toArray, List.getElem_cons_zero, List.getElem_cons_succ, List.setIfInBounds_toArray, List.set_cons_zero, List.set_cons_succ]
          refine wpAnyH_take (i := 6) (v := undef) rfl (by kernel_rfl) (by kernel_rfl) (by kernel_rfl) (fun _ _ _ h => h) (Or.inr ⟨by rfl, rfl⟩) (by assumption) ?_
          simp only [Act.put, List.getElem_toArray, List.getElem_cons_zero, List.getElem_cons_succ, List.setIfInBounds_toArray, List.set_cons_zero, List.set_cons_succ]
          refine wpAnyH_take (i := 7) (v := undef) rfl (by kernel_rfl) (by kernel_rfl) (by kernel_rfl) (fun _ _ _ h => h) (Or.inr ⟨by rfl, rfl⟩) (by assumption) ?_
          simp only [Act.put, List.getElem_toArray, List.getElem_cons_zero, List.getElem_cons_succ, List.setIfInBounds_toArray, List.set_cons_zero, List.set_cons_succ]
          refine wpAnyH_take (i := 8) (v := undef) rfl (by kernel_rfl) (by kernel_rfl) (by kernel_rfl) (fun _ _ _ h => h) (Or.inr ⟨by rfl, rfl⟩) (by assumption) ?_
          simp only [Act.put, List.getElem_toArray, List.getElem_cons_zero, List.getElem_cons_succ, List.setIfInBounds_toArray, List.set_cons_zero, List.set_cons_succ]
          refine wpAnyH_take (i := 9) (v := undef) rfl (by kernel_rfl) (by kernel_rfl) (by kernel_rfl) (fun _ _ _ h => h) (Or.inr ⟨by rfl, rfl⟩) (by assumption) ?_
          simp only [Act.put, List.getElem_toArray, List.getElem_cons_zero, List.getElem_cons_succ, List.setIfInBounds_toArray, List.set_cons_zero, List.set_cons_succ]
          refine wpAnyH_take (i := 10) (v := undef) rfl (by kernel_rfl) (by kernel_rfl) (by kernel_rfl) (fun _ _ _ h => h) (Or.inr ⟨by rfl, rfl⟩) (by assumption) ?_
          simp only [Act.put, List.getElem_toArray, List.getElem_cons_zero, List.getElem_cons_succ, List.setIfInBounds_toArray, List.set_cons_zero, List.set_cons_succ]
          refine wpAnyH_take (i := 11) (v := undef) rfl (by kernel_rfl) (by kernel_rfl) (by kernel_rfl) (fun _ _ _ h => h) (Or.inr ⟨by rfl, rfl⟩) (by assumption) ?_
          simp only [Act.put, List.getElem_toArray, List.getElem_cons_zero, List.getElem_cons_succ, List.setIfInBounds_toArray, List.set_cons_zero, List.set_cons_succ]
          refine wpAnyH_take (i := 12) (v := ?_) rfl (by kernel_rfl) (by kernel_rfl) (by kernel_rfl) (fun _ _ _ h => h) (Or.inl ⟨by rfl, ?_⟩) (by assumption) ?_
          rotate_left
          · intro w hSw
            go_simp
            try with_reducible rfl
          simp only [Act.put, List.getElem_toArray, List.getElem_cons_zero, List.getElem_cons_succ, List.setIfInBounds_toArray, List.set_cons_zero, List.set_cons_succ]
          refine wpAnyH_done (by kernel_rfl) ?_ _
          have B3 := aside hHeld.1
          have C1 := aside hHeld.2
          clear hHeld e0 e1
          have cv := C1.out
          by_cases hv : ck < t.c
          · go_wp2
            go_ret2
            exact ⟨B3.out, .inr ⟨fun k9 => by have := k9.ver _ (first_mem (T := T) (j := 0) (by omega)); rw [HT.out] at this; omega, _, by decide, rfl⟩⟩
          · have HV := aside hv
            go_wp2
            go_roundw
            case rel => exact ⟨0 + 1, by go_num, by omega, ⟨(ckN_step HC.out.1).trans (chk_first HQ.out rfl), fun i hi => by rcases Nat.lt_succ_iff_lt_or_eq.1 hi with h9 | h9; exact HC.out.2 i h9; (subst h9; rw [HT.out]; have := HV.out; omega)⟩, B3.out⟩
            case measure => simp [intOf]; omega
        | succ k =>
          have d0 := HC2.out k (by omega)
          obtain ⟨u, hu⟩ : ∃ u, T k = u := ⟨_, rfl⟩
          have HU := aside hu
          rw [hu] at d0
          clear hu HC2
          have hk0 : (0 : Int) ≤ (k : Int) := by omega
          have hk1 : (k : Int) < (len : Int) := by omega
          have hk2 : (0 : Int) ≤ (k : Int) + 1 := by omega
          have hk3 : (0 : Int) < (k : Int) + 1 := by omega
          have hk4 : (k : Int) + 1 < (len : Int) := by omega
          have hw2 : IntKind.i64.wrap (k : Int) = (k : Int) := by simp only [IntKind.wrap_i64]; omega
          go_wp2_with fail
          refine wp_region_held_drew (S := fun W => Below w.heap.size w W ∧ W.cell? ⟨b, off + k * 5, none⟩ = some (.string u.k) ∧ W.cell? ⟨g, 0, none⟩ = some (.string t.k) ∧ W.cell? ⟨g, 1, none⟩ = some (.int .i64 t.c)) (by kernel_rfl) ⟨B2.out.drew, d0, e0, e1⟩ (fun hHeld => ?_)
          refine wpAnyH_take (i := 0) (v := ?_) rfl (by kernel_rfl) (by kernel_rfl) (by kernel_rfl) (fun _ _ _ h => h) (Or.inl ⟨by rfl, ?_⟩) (by assumption) ?_
          rotate_left
          · intro w hSw
            go_simp
            try with_reducible rfl
          simp only [Act.put, List.getElem_toArray, List.getElem_cons_zero, List.setIfInBounds_toArray, List.set_cons_zero, List.set_cons_succ]
          refine wpAnyH_take (i := 1) (v := ?_) rfl (by kernel_rfl) (by kernel_rfl) (by kernel_rfl) (fun _ _ _ h => h) (Or.inl ⟨by rfl, ?_⟩) (by assumption) ?_
          rotate_left
          · intro w hSw
            go_simp
            try with_reducible rfl
          simp only [Act.put, List.getElem_toArray, List.getElem_cons_zero, List.getElem_cons_succ, List.setIfInBounds_toArray, List.set_cons_zero, List.set_cons_succ]
          refine wpAnyH_take (i := 2) (v := ?_) rfl (by kernel_rfl) (by kernel_rfl) (by kernel_rfl) (fun _ _ _ h => h) (Or.inl ⟨by rfl, ?_⟩) (by assumption) ?_
          rotate_left
          · intro w hSw
            go_simp
            try with_reducible rfl
          simp only [Act.put, List.getElem_toArray, List.getElem_cons_zero, List.getElem_cons_succ, List.setIfInBounds_toArray, List.set_cons_zero, List.set_cons_succ]
          refine wpAnyH_take (i := 3) (v := ?_) rfl (by kernel_rfl) (by kernel_rfl) (by kernel_rfl) (fun _ _ _ h => h) (Or.inl ⟨by rfl, ?_⟩) (by assumption) ?_
          rotate_left
          · intro w hSw
            go_simp
            try with_reducible rfl
          simp only [Act.put, List.getElem_toArray, List.getElem_cons_zero, List.getElem_cons_succ, List.setIfInBounds_toArray, List.set_cons_zero, List.set_cons_succ]
          refine wpAnyH_take (i := 4) (v := ?_) rfl (by kernel_rfl) (by kernel_rfl) (by kernel_rfl) (fun _ _ _ h => h) (Or.inl ⟨by rfl, ?_⟩) (by assumption) ?_
          rotate_left
          · intro w hSw
            go_simp
            try with_reducible rfl
          simp only [Act.put, List.getElem_toArray, List.getElem_cons_zero, List.getElem_cons_succ, List.setIfInBounds_toArray, List.set_cons_zero, List.set_cons_succ]
          refine wpAnyH_take (i := 5) (v := ?_) rfl (by kernel_rfl) (by kernel_rfl) (by kernel_rfl) (fun _ _ _ h => h) (Or.inl ⟨by rfl, ?_⟩) (by assumption) ?_
          rotate_left
          · intro w hSw
            go_simp
            try with_reducible rfl
          simp only [Act.put, List.getElem_toArray, List.getElem_cons_zero, List.getElem_cons_succ, List.setIfInBounds_toArray, List.set_cons_zero, List.set_cons_succ]
          refine wpAnyH_take (i := 6) (v := ?_) rfl (by kernel_rfl) (by kernel_rfl) (by kernel_rfl) (fun _ _ _ h => h) (Or.inl ⟨by rfl, ?_⟩) (by assumption) ?_
          rotate_left
          · intro w hSw
            go_simp
            try with_reducible rfl
          simp only [Act.put, List.getElem_toArray, List.getElem_cons_zero, List.getElem_cons_succ, List.setIfInBounds_toArray, List.set_cons_zero, List.set_cons_succ]
          refine wpAnyH_take (i := 7) (v := ?_) rfl (by kernel_rfl) (by kernel_rfl) (by kernel_rfl) (fun _ _ _ h => h) (Or.inl ⟨by rfl, ?_⟩) (by assumption) ?_
          rotate_left
          · intro w hSw
            go_simp
            try with_reducible rfl
          simp only [Act.put, List.getElem_toArray, List.getElem_cons_zero, List.getElem_cons_succ, List.setIfInBounds_toArray, List.set_cons_zero, List.set_cons_succ]
          refine wpAnyH_take (i := 8) (v := ?_) rfl (by kernel_rfl) (by kernel_rfl) (by kernel_rfl) (fun _ _ _ h => h) (Or.inl ⟨by rfl, ?_⟩) (by assumption) ?_
          rotate_left
          · intro w hSw
            go_simp
            try with_reducible rfl
          simp only [Act.put, List.getElem_toArray, List.getElem_cons_zero, List.getElem_cons_succ, List.setIfInBounds_toArray, List.set_cons_zero, List.set_cons_succ]
          refine wpAnyH_take (i := 9) (v := ?_) rfl (by kernel_rfl) (by kernel_rfl) (by kernel_rfl) (fun _ _ _ h => h) (Or.inl ⟨by rfl, ?_⟩) (by assumption) ?_
          rotate_left
          · intro w hSw
            go_simp
            try with_reducible rfl
          simp only [Act.put, List.getElem_toArray, List.getElem_cons_zero, List.getElem_cons_succ, List.setIfInBounds_toArray, List.set_cons_zero, List.set_cons_succ]
          refine wpAnyH_take (i := 10) (v := ?_) rfl (by kernel_rfl) (by kernel_rfl) (by kernel_rfl) (fun _ _ _ h => h) (Or.inl ⟨by rfl, ?_⟩) (by assumption) ?_
          rotate_left
          · intro w hSw
            go_simp
            try with_reducible rfl
          simp only [Act.put, List.getElem_toArray, List.getElem_cons_zero, List.getElem_cons_succ, List.setIfInBounds_toArray, List.set_cons_zero, List.set_cons_succ]
          refine wpAnyH_take (i := 11) (v := .bool (!kLt u.k t.k)) rfl (by kernel_rfl) (by kernel_rfl) (by kernel_rfl) (fun _ _ _ h => h) (Or.inl ⟨by rfl, ?_⟩) (by assumption) ?_
          · intro w hSw
            go_simp
            exact leq_eq _ _
          simp only [Act.put, List.getElem_toArray, List.getElem_cons_zero, List.getElem_cons_succ, List.setIfInBounds_toArray, List.set_cons_zero, List.set_cons_succ]
          refine wpAnyH_take (i := 12) (v := ?_) rfl (by kernel_rfl) (by kernel_rfl) (by kernel_rfl) (fun _ _ _ h => h) (Or.inl ⟨by rfl, ?_⟩) (by assumption) ?_
          rotate_left
          · intro w hSw
            go_simp
            try with_reducible rfl
          simp only [Act.put, List.getElem_toArray, List.getElem_cons_zero, List.getElem_cons_succ, List.setIfInBounds_toArray, List.set_cons_zero, List.set_cons_succ]
          refine wpAnyH_done (by kernel_rfl) ?_ _
          have B3 := aside hHeld.1
          have C1 := aside hHeld.2.2.2
          clear hHeld hw2 e0 e1 d0
          have KQ := aside (chk_rising HQ.out rfl)
          rw [HU.out, HT.out] at KQ
          cases hkk : kLt u.k t.k
          · rw [hkk] at KQ
            go_wp2
            go_ret2
            refine ⟨B3.out, .inr ⟨fun k9 => ?_, _, by decide, rfl⟩⟩
            have h9 := (ck_map len).2 k9.map
            have := ckN_bad (n := len) HC.out.1 (by omega) (by rw [KQ.out]; decide)
            rw [KQ.out, h9] at this
            cases this
          · rw [hkk] at KQ
            have cv := C1.out
            by_cases hv : ck < t.c
            · go_wp2
              go_ret2
              exact ⟨B3.out, .inr ⟨fun k9 => by have := k9.ver _ (first_mem (T := T) (j := (k + 1)) (by omega)); rw [HT.out] at this; omega, _, by decide, rfl⟩⟩
            · have HV := aside hv
              go_wp2
              go_roundw
              case rel => exact ⟨(k + 1) + 1, by go_num, by omega, ⟨(ckN_step HC.out.1).trans KQ.out, fun i hi => by rcases Nat.lt_succ_iff_lt_or_eq.1 hi with h9 | h9; exact HC.out.2 i h9; (subst h9; rw [HT.out]; have := HV.out; omega)⟩, B3.out⟩
              case measure => simp [intOf]; omega
      · have HQ0 := aside hq0
        go_wp2_with fail
        refine (CQ.out _).mono ?_
        rintro e w1 ⟨rfl, b1⟩
        have B2 := aside (HB.out.trans ((bthen (bnew wr (.cells #[.string t.k, .int .i64 t.c, .int .i64 t.n, .string t.v, .bool t.d] 33)) b1).mono HB.out.size))
        clear b1 CQ c0 c1 c2 c3 c4
        have hqb : (q == 0) = false := by simpa using hq0
        go_wp2
        go_ret2
        exact ⟨B2.out, .inr ⟨fun k9 => HQ0.out (by have := k9.map.chk _ (first_mem (T := T) (j := j) (by omega)); rw [HQ.out] at this; exact this), _, HQ0.out, rfl⟩⟩
    · have hjl : j = len := by omega
      subst hjl
      have HEV := aside (HE.out.keep HB.out)
      go_wp2_with (at_builtin; refine wpList_plain rfl fun K hK => op_append_copy _ _ rfl (by rfl) a j cap T (by rfl) HEV.out HF.out (by have := H5.out; omega) ?_; intro v9 w3 own9 b9; refine hK _ _ ?_; refine Hid.out ?_)
      refine aside ?_
      obtain ⟨a9, c9, rfl, -, -, -⟩ := own_slice own9
      have O9 := aside own9
      have B9 := aside b9
      clear own9 b9 HEV
      go_wp2
      go_ret2
      refine ⟨(HB.out.trans (B9.out.mono HB.out.size)).alloc (by have := HB.out.size; have := B9.out.size; omega) _, .inl ⟨ldOk_of HN.out (by have := H3.out; omega) (by have := H4.out; omega) (by have := H5.out; omega) HC.out, w3.heap.size, rfl, by have := HB.out.size; have := B9.out.size; omega, _, heap_alloc_new w3 _, ?_⟩⟩
      rw [firstE_len]
      exact own_low (own_on O9.out (bnew w3 _)) HB.out.size
end Go.Proofs.YtoflalflacopdaaDoor
namespace Go.Proofs.YtoflalflacopdaaDoor
open Go.RowKit
set_option linter.unusedVariables false
def f0 (e : En) : Int := of0 e.k e.c e.n
def f1 (e : En) : Int := of1 e.k e.c e.n
end Go.Proofs.YtoflalflacopdaaDoor
namespace Go.Proofs.YtoflalflacopdaaDoor
open Go.RowKit
set_option linter.unusedVariables false
end Go.Proofs.YtoflalflacopdaaDoor
namespace Go.Proofs.YtoflalflacopdaaDoor
open Go.RowKit Go.Shelf
set_option linter.unusedVariables false
attribute [local go_sem] Oper.semAt_some
set_option maxHeartbeats 8000000 in
set_option maxRecDepth 100000 in
theorem appendSeq_any {w : World} {lb : Array Value} {es : List En} (hs : SeqE w lb es) :
    Calls Tryd.prog 124 #[.slice none 0 0, .func (.func 70) #[] lb] w fun r w' => ∃ v, r = .returned v ∧ w'.ownsRow w.heap.size 33 5 v es.length (entCells es) ∧ Below w.heap.size w w' := by
  have b3 := bnew w (.cells #[.slice none 0 0] 22)
  have B3 := aside b3
  obtain ⟨N, hN, hNl, hSq⟩ := hs
  have SQ := aside hSq
  have HNN := aside hN
  have I0 := aside (show LstE w.heap.size w.heap.size [] (w.alloc (.cells #[.slice none 0 0] 22)) from ⟨.slice none 0 0, heap_alloc_new w _, ⟨rfl, .inl ⟨rfl, rfl⟩⟩⟩)
  obtain ⟨V, hV⟩ : ∃ V, w.alloc (.cells #[.slice none 0 0] 22) = V := ⟨_, rfl⟩
  rw [hV] at B3 I0
  clear b3 hN hNl hSq
  have HVV := aside (show w.heap.size ≤ V.heap.size from B3.out.size)
  have ownI : OwnFrom V.heap.size (fun (pre : List En) X => LstE w.heap.size w.heap.size pre X ∧ Below w.heap.size w X) := fun s A Y row hs hg hr =>
    ⟨hs.1.own hg (fun r e => (hr r e).2), ownFrom_below (β := Unit) (Nat.le_refl w.heap.size) HVV.out () A Y row hs.2 hg hr⟩
  obtain ⟨vb, hvb⟩ : ∃ vb, w.heap.size = vb := ⟨_, rfl⟩
  have HVB := aside (show w.heap.size ≤ vb from by omega)
  have I1 := aside (show LstE w.heap.size vb [] V from by rw [← hvb]; exact I0.out)
  have ownJ : OwnFrom V.heap.size (fun (pre : List En) X => LstE w.heap.size vb pre X ∧ Below w.heap.size w X) := by rw [← hvb]; exact ownI
  clear I0 ownI
  refine (callsIn_wide (n := 5)).1 ?_
  refine callsIn_of_wp_marks Tryd.func124 rfl trivial ?_ rfl
  simp only [Tryd.ntmps124, List.size_toArray, List.length_cons, List.length_nil, Nat.reduceAdd, Nat.reduceSub, Array.replicate_succ, Array.replicate_zero, List.push_toArray, List.append_toArray, List.nil_append, List.cons_append]
  gi_wp2_with fail
  refine rangeO rfl (enters_of Tryd.func70 (by kernel_rfl) rfl) SQ.out KpT.t (fun W l o o' _ h ho => KpT.b W l o o' h ho) B3.out (fun _ => rfl)
    (fun (pre : List En) X => LstE w.heap.size vb pre X ∧ Below w.heap.size w X) (fun _ _ _ => False) ownJ (fun _ _ _ _ _ h => h.elim) ⟨I1.out, B3.out⟩
    (fun x a' X => ∃ eb : Nat, a' = ⟨#[.slice none 0 0, .func (.func 70) #[] lb, .pointer (some ⟨vb, 0, none⟩), undef, .slice none 0 0, .pointer (some ⟨eb, 0, none⟩), .func (.func 70) #[] lb, .agg #[.string x.k, .int .i64 x.c, .int .i64 x.n, .string x.v, .bool x.d], undef, undef, undef, undef, undef], []⟩ ∧ X.heap[eb]? = some (.cells #[.string x.k, .int .i64 x.c, .int .i64 x.n, .string x.v, .bool x.d] 33 (0, 0)))
    (fun x a' _ A Y row hs hg hr => by
      obtain ⟨eb, h1, h2⟩ := hs
      exact ⟨eb, h1, cells_own h2 hg (fun r e => (hr r e).2)⟩) ?assign ?body ?done ?stop
  case assign =>
    intro l' pre x X K hi hK
    dsimp only [encE]
    gi_wp2
    refine hK _ _ ?_ ?_ ?_ ⟨_, rfl, heap_alloc_new X _⟩
    · exact KeepsFrom.of_grownBy (World.grownBy_alloc X _ none) (fun j e => by cases e)
    · exact (KpT.refl X).alloc _
    · exact ownJ.alloc _ hi
  case body =>
    rintro l' pre x a' X ⟨hls, hbx⟩ ⟨eb, rfl, he⟩ hlen
    obtain ⟨v, hv, ho⟩ := hls.ex
    obtain ⟨i0, hi0, hz0, hz1, hz2⟩ := info_parts infoEnt
    obtain ⟨e0, e1, e2, e3, e4, -⟩ := penta he
    have v0 := cell_one hv
    have HV := aside hv
    have HO := aside ho
    have HB := aside hbx
    have HLN := aside (show pre.length ≤ 1000000 from by have := HNN.out; omega)
    have HI := aside hi0
    clear hls hv ho hbx he hlen hi0
    gi_wp2_with (gi_at_builtin; go_loud (refine wpListIn_append_own _ rfl _ _ _ rfl w.heap.size 33 i0 (.agg #[.string ⟨#[]⟩, .int .i64 0, .int .i64 0, .string ⟨#[]⟩, .bool false]) 5 56 Tryd.underlying22 HI.out hz0 hz1 hz2 rfl (by decide) v pre.length (entCells pre) (by rfl) (HO.out.alloc _) ⟨X.heap.size, 0, none⟩ 1 1 (entVals x) (by rfl) (by rfl) (World.news_of_block (cs := #[.string x.k, .int .i64 x.c, .int .i64 x.n, .string x.v, .bool x.d]) (t := 33) (fr := (0, 0)) (heap_alloc_new X _)) (by intro u hu; exact entCells_one [x] u (by simpa [entCells] using hu)) (by have := HLN.out; unfold maxLen; omega) (by have := HLN.out; omega) (by have := HB.out.size; simp; omega) ?_); intro v' X1 hown1 hgrow hiff; refine Hid.out ?_)
    refine aside ?_
    obtain ⟨g', cap', rfl⟩ : ∃ g' cap', v' = .slice (some ⟨g', 0, none⟩) (pre.length + 1) cap' := by
      rcases hown1.2 with ⟨_, h⟩ | ⟨g', cap', cur, e, _⟩
      · omega
      · exact ⟨g', cap', e⟩
    have ST := aside (lst_step (x := x) (C := V.heap.size) HB.out HVB.out HV.out HO.out hown1 hgrow)
    have v1 := cell_one ST.out.1
    have z1 := frozen_one ST.out.1
    clear hown1 hgrow hiff v0 e0 e1 e2 e3 e4
    gi_wp2
    exact ⟨ST.out.2.2.2.1, ST.out.2.2.2.2, ST.out.2.1, ST.out.2.2.1⟩
  case done =>
    rintro D xs X hD rfl ⟨hls, hbx⟩ hK
    obtain ⟨v, hv, ho⟩ := hls.ex
    have v0 := cell_one hv
    have FO := aside (ownsRow_own ho (grownBy_putObj' X D (.deferred none)) (fun r e => by cases e; exact ⟨_, hK, rfl⟩))
    have FB := aside (ownFrom_below (β := Unit) (Nat.le_refl w.heap.size) HVV.out () X _ (some D) hbx (grownBy_putObj' X D (.deferred none)) (fun r e => by cases e; exact ⟨hD, _, hK, rfl⟩))
    clear hls hbx hv ho
    gi_wp2
    refine ⟨by simp, .inl ⟨_, _, rfl, run_takeDeferred hK, ?_⟩⟩
    exact ⟨v, by simp [results, Tryd.f124, go_sem], by first | exact ⟨v, rfl, FO.out, FB.out⟩ | (rw [← hvb]; exact ⟨v, rfl, FO.out, FB.out⟩)⟩
  case stop =>
    rintro D c pre X hD _ h
    exact h.elim
end Go.Proofs.YtoflalflacopdaaDoor
namespace Go.Proofs.YtoflalflacopdaaDoor
open Go.RowKit
set_option linter.unusedVariables false
/-- The eight cells of a part. -/
def PmAt (w : World) (b off : Nat) (p : Pm) : Prop := w.cell? ⟨b, off, none⟩ = some (.int .i64 p.kind) ∧ w.cell? ⟨b, off + 1, none⟩ = some (.string p.lo) ∧ w.cell? ⟨b, off + 2, none⟩ = some (.string p.hi) ∧ w.cell? ⟨b, off + 3, none⟩ = some (.bool p.op) ∧ w.cell? ⟨b, off + 4, none⟩ = some (.int .i64 p.cnt) ∧ w.cell? ⟨b, off + 5, none⟩ = some (.int .u64 p.s0) ∧ w.cell? ⟨b, off + 6, none⟩ = some (.int .u64 p.s1) ∧ w.cell? ⟨b, off + 7, none⟩ = some (.slice p.ea p.el p.ec)
theorem PmAt.keep {w w' : World} {b off : Nat} {p : Pm} (h : PmAt w b off p) (k : Below w.heap.size w w') : PmAt w' b off p := by
  obtain ⟨c0, c1, c2, c3, c4, c5, c6, c7⟩ := h
  exact ⟨cell_in c0 k, cell_in c1 k, cell_in c2 k, cell_in c3 k, cell_in c4 k, cell_in c5 k, cell_in c6 k, cell_in c7 k⟩
/-- Its entries are there. -/
def Pm.In (w : World) (p : Pm) : Prop := EntsIn w p.ea p.el p.ec p.T
theorem Pm.In.keep {w w' : World} {p : Pm} (h : p.In w) (k : Below w.heap.size w w') : p.In w' := EntsIn.keep h k
/-- A list of parts in memory. -/
def PartsIn (w : World) (a : Option Addr) (len cap : Nat) (P : Nat → Pm) : Prop :=
  len ≤ cap ∧ cap ≤ maxLen ∧ (len = 0 ∨ ∃ b off, a = some ⟨b, off, none⟩ ∧ b < w.heap.size ∧ ∀ i, i < len → PmAt w b (off + i * 8) (P i) ∧ (P i).In w)
theorem PartsIn.keep {w w' : World} {a : Option Addr} {len cap : Nat} {P : Nat → Pm} (h : PartsIn w a len cap P) (k : Below w.heap.size w w') : PartsIn w' a len cap P := by
  obtain ⟨h1, h2, h3⟩ := h
  refine ⟨h1, h2, ?_⟩
  rcases h3 with h3 | ⟨bb, off, rfl, hb, hc⟩
  · exact .inl h3
  · exact .inr ⟨bb, off, rfl, by have := k.size; omega, fun i hi => ⟨(hc i hi).1.keep k, (hc i hi).2.keep k⟩⟩
theorem oct {w : World} {i : Nat} {p : Pm} (h : w.heap[i]? = some (.cells #[.int .i64 p.kind, .string p.lo, .string p.hi, .bool p.op, .int .i64 p.cnt, .int .u64 p.s0, .int .u64 p.s1, .slice p.ea p.el p.ec] 59 (0, 0))) : w.cell? ⟨i, 0, none⟩ = some (.int .i64 p.kind) ∧ w.cell? ⟨i, 1, none⟩ = some (.string p.lo) ∧ w.cell? ⟨i, 2, none⟩ = some (.string p.hi) ∧ w.cell? ⟨i, 3, none⟩ = some (.bool p.op) ∧ w.cell? ⟨i, 4, none⟩ = some (.int .i64 p.cnt) ∧ w.cell? ⟨i, 5, none⟩ = some (.int .u64 p.s0) ∧ w.cell? ⟨i, 6, none⟩ = some (.int .u64 p.s1) ∧ w.cell? ⟨i, 7, none⟩ = some (.slice p.ea p.el p.ec) :=
  ⟨by simp [World.cell?, h], by simp [World.cell?, h], by simp [World.cell?, h], by simp [World.cell?, h], by simp [World.cell?, h], by simp [World.cell?, h], by simp [World.cell?, h], by simp [World.cell?, h]⟩
end Go.Proofs.YtoflalflacopdaaDoor
namespace Go.Proofs.YtoflalflacopdaaDoor
open Go.RowKit
set_option linter.unusedVariables false
set_option maxHeartbeats 1600000 in
theorem alone_any (p : Pm) (w : World) : Calls Tryd.prog 109 #[.agg #[.int .i64 p.kind, .string p.lo, .string p.hi, .bool p.op, .int .i64 p.cnt, .int .u64 p.s0, .int .u64 p.s1, .slice p.ea p.el p.ec]] w fun e w' => e = .returned (.bool p.alone) ∧ Below w.heap.size w w' := by
  obtain ⟨kind, lo, hi, op, cnt, s0, s1, ea, el, ec, T⟩ := p
  dsimp only
  by_cases h1 : kind = 1
  · subst h1
    by_cases h0 : el = 0
    · subst h0
      go_enter Tryd.func109, Tryd.ntmps109
      go_wp2
      go_ret
      exact ⟨ret_bool (by simp [Pm.alone]), bnew w _⟩
    · have h0' : ((el : Int) == 0) = false := by simp; omega
      have H0 := aside h0
      go_enter Tryd.func109, Tryd.ntmps109
      go_wp2
      go_ret
      exact ⟨ret_bool (by simp [Pm.alone, H0.out]), bnew w _⟩
  · by_cases h2 : kind = 2 ∨ kind = 3
    · obtain ⟨q, hq⟩ : ∃ q, (cnt == 0 && (s0 == 0 && s1 == 0)) = q := ⟨_, rfl⟩
      have TQ := fun W => tal_run cnt s0 s1 0 0 0 W
      rw [hq] at TQ
      have HQ := aside hq
      clear hq h1
      rcases h2 with rfl | rfl
      · skip
        go_enter Tryd.func109, Tryd.ntmps109
        go_wp2
        go_ret
        exact ⟨ret_bool (by simp only [Pm.alone]; rw [if_neg (by decide), if_pos (by decide)]; exact HQ.out.symm), bnew w _⟩
      · skip
        go_enter Tryd.func109, Tryd.ntmps109
        go_wp2
        go_ret
        exact ⟨ret_bool (by simp only [Pm.alone]; rw [if_neg (by decide), if_pos (by decide)]; exact HQ.out.symm), bnew w _⟩
    · have b1 : (kind == 1) = false := by simpa using h1
      have b2 : (kind == 2) = false := by simp; omega
      have b3 : (kind == 3) = false := by simp; omega
      have H1 := aside h1
      have H2 := aside h2
      go_enter Tryd.func109, Tryd.ntmps109
      go_wp2
      go_ret
      exact ⟨ret_bool (by simp only [Pm.alone]; rw [if_neg H1.out, if_neg H2.out]), bnew w _⟩
set_option maxHeartbeats 1600000 in
theorem tlchk_any (c a b : Int) (w : World) : Calls Tryd.prog 110 #[.agg #[.int .i64 c, .int .u64 a, .int .u64 b]] w fun e w' => e = .returned (.int .i64 (tlChk c a b)) ∧ Below w.heap.size w w' := by
  by_cases h1 : c < 0
  · skip
    go_enter Tryd.func110, Tryd.ntmps110
    go_wp2
    go_ret
    exact ⟨ret_i64 (by unfold tlChk; rw [if_pos (by omega)]), bnew w _⟩
  · by_cases h2 : 256 < c
    · skip
      go_enter Tryd.func110, Tryd.ntmps110
      go_wp2
      go_ret
      exact ⟨ret_i64 (by unfold tlChk; rw [if_pos (by omega)]), bnew w _⟩
    · by_cases h3 : c = 0
      · subst h3
        by_cases h4 : a = 0 ∧ b = 0
        · have TQ := fun W => tal_ne_run 0 a b 0 0 0 W
          obtain ⟨rfl, rfl⟩ := h4
          go_enter Tryd.func110, Tryd.ntmps110
          go_wp2
          go_ret
          exact ⟨ret_i64 (by unfold tlChk; rw [if_neg (by omega), if_neg (by omega)]), bnew w _⟩
        · have TQ := fun W => tal_ne_run 0 a b 0 0 0 W
          have hq : (a == 0 && b == 0) = false := by
            cases h : (a == 0 && b == 0)
            · rfl
            · exact absurd (by simpa using h) h4
          rw [hq] at TQ
          have H4 := aside h4
          clear hq h4
          go_enter Tryd.func110, Tryd.ntmps110
          go_wp2
          go_ret
          exact ⟨ret_i64 (by unfold tlChk; rw [if_neg (by omega), if_pos ⟨rfl, H4.out⟩]), bnew w _⟩
      · have b3 : (c == 0) = false := by simpa using h3
        go_enter Tryd.func110, Tryd.ntmps110
        go_wp2
        go_ret
        exact ⟨ret_i64 (by unfold tlChk; rw [if_neg (by omega), if_neg (by omega)]), bnew w _⟩
/-- Whether a turn is the sender's. -/
def turnB (tn fr o : Int) : Bool := decide (¬ tn < 0) && decide (¬ 63 < tn) && ((tn % 2 == 0) == (fr == o))
end Go.Proofs.YtoflalflacopdaaDoor

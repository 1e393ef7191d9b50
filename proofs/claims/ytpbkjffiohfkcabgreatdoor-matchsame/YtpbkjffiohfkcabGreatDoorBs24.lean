/-
  Plain: which lists a store can be loaded with, and what comes of loading them.
  Check: which lists are maps, the code's and the document's own.
  What MixTurned needs: a place among n; rows of entries that grow and shrink side by side; sums of lists.
  The document's Load: a store of its own, just if one can be made.
  Two maps side by side, step by step: plain; rows of pairs in memory.
  Pairs, the document's own: two maps side by side, as a list.
  Iterators that go over another iterator: what they may ask of the one who ranges over them, and a law for the loop.
  The iterator that goes through two maps side by side: what it hands to a loop's body.
  Entries and versions compared.
-/
import Derived.Test.YtpbkjffiohfkcabGreatDoorBs22
import Derived.Test.YtpbkjffiohfkcabGreatDoorBs23
import Derived.Deep.RegionHeld
import Derived.Maps.AppendAt
import Derived.Test.YtpbkjffiohfkcabGreatDoorBs10
import Derived.RangeFuncNested
import Derived.Laws.StructEq
namespace Go.Proofs.YtpbkjffiohfkcabGreatDoor
open Go.RowKit
set_option linter.unusedVariables false
/-- A store can be made of these. -/
structure LdOk (nd ck : Int) (l : List En) : Prop where
  nd : nodeB nd = true
  c0 : 0 ≤ ck
  c1 : ck ≤ 1099511627776
  len : l.length ≤ 256
  map : MapL l
  ver : ∀ e ∈ l, e.c ≤ ck
theorem insE_end (e : En) : ∀ l : List En, (∀ y ∈ l, kLt y.k e.k = true) → insE e l = l ++ [e]
  | [], _ => rfl
  | y :: l, h => by
    have h1 := h y List.mem_cons_self
    unfold insE
    rw [if_neg (by rw [kLt_asymm h1]; simp), if_pos h1, insE_end e l (fun z hz => h z (List.mem_cons_of_mem _ hz))]
    rfl
theorem first_sub (T : Nat → En) {m n : Nat} (h : m ≤ n) : (firstE T m).Sublist (firstE T n) := by
  unfold firstE
  exact (List.range_sublist.2 h).map T
theorem first_mem {T : Nat → En} {j n : Nat} (h : j < n) : T j ∈ firstE T n := by
  unfold firstE
  exact List.mem_map.2 ⟨j, List.mem_range.2 h, rfl⟩
theorem ld_step {T : Nat → En} {j len : Nat} (h : MapL (firstE T len)) (hj : j < len) : insE (T j) (firstE T j) = firstE T (j + 1) := by
  have h1 : MapL (firstE T (j + 1)) := mapL_sub h (first_sub T (by omega))
  have h2 := h1.rises
  rw [firstE_succ, rises_snoc] at h2
  rw [firstE_succ, insE_end (T j) _ h2.2]
theorem ckm_low {ck c : Int} (h : c ≤ ck) : ckm ck c = ck := by
  unfold ckm
  rw [if_neg (by omega)]
theorem key_small {e : En} (h : e.chk = 0) : e.k.size ≤ 140737488351232 := by
  have := (chk_pos h).2.1
  omega
end Go.Proofs.YtpbkjffiohfkcabGreatDoor
namespace Go.Proofs.YtpbkjffiohfkcabGreatDoor
open Go.RowKit
set_option linter.unusedVariables false
theorem chk_rising {T : Nat → En} {k : Nat} {q : Int} (hq : (T (k + 1)).chk = q) (h0 : q = 0) : ckAt T (k + 1) = bif kLt (T k).k (T (k + 1)).k then 0 else 90 := by
  subst h0
  cases h : kLt (T k).k (T (k + 1)).k
  · exact ckAt_ord hq ⟨by omega, h⟩
  · exact ckAt_ok hq (fun g => by have := g.2; rw [show k + 1 - 1 = k from rfl, h] at this; cases this)
theorem chk_first {T : Nat → En} {q : Int} (hq : (T 0).chk = q) (h0 : q = 0) : ckAt T 0 = 0 := ckAt_ok (hq.trans h0) (fun g => by have := g.1; omega)
/-- x <= y of two texts, by the order. -/
theorem leq_eq (x y : ByteArray) : (Op.bytesLess x.toList y.toList || x.toList == y.toList) = !kLt y x := by
  unfold kLt
  cases h1 : Op.bytesLess x.toList y.toList <;> cases h2 : Op.bytesLess y.toList x.toList
  · have e := L_total _ _ h1 h2
    simp [e]
  · have e : (x.toList == y.toList) = false := by
      rw [beq_eq_false_iff_ne]; intro e; rw [e, L_irrefl] at h2; cases h2
    simp [e]
  · simp
  · have := L_trans _ _ _ h1 h2
    rw [L_irrefl] at this
    cases this
theorem chk_of (t : En) (w : World) {q : Int} (h : t.chk = q) (F : Nat) (C : ∀ (k : ByteArray) (c n : Int) (v : ByteArray) (d : Bool) (w : World), Calls Tryz.prog F #[.agg #[.string k, .int .i64 c, .int .i64 n, .string v, .bool d]] w fun e w' => e = .returned (.int .i64 (En.chk ⟨k, c, n, v, d⟩)) ∧ Below w.heap.size w w') :
    Calls Tryz.prog F #[.agg #[.string t.k, .int .i64 t.c, .int .i64 t.n, .string t.v, .bool t.d]] w fun e w' => e = .returned (.int .i64 q) ∧ Below w.heap.size w w' := by
  subst h
  exact C t.k t.c t.n t.v t.d w
end Go.Proofs.YtpbkjffiohfkcabGreatDoor
namespace Go.Proofs.YtpbkjffiohfkcabGreatDoor
open Go.RowKit
set_option linter.unusedVariables false
/-- An owned row's slice, in letters. -/
theorem own_slice {w : World} {B : Nat} {e : TypeId} {s : Nat} {v : Value} {n : Nat} {xs : List Value} (h : w.ownsRow B e s v n xs) : ∃ a c, v = .slice a n c ∧ n ≤ c ∧ c ≤ maxLen ∧ ((a = none ∧ n = 0 ∧ c = 0) ∨ ∃ g, a = some ⟨g, 0, none⟩ ∧ B ≤ g) := by
  rcases h.2 with ⟨rfl, rfl⟩ | ⟨g, cap, cur, rfl, hb, _, hn, hm, _⟩
  · exact ⟨none, 0, rfl, Nat.le_refl _, Nat.zero_le _, .inl ⟨rfl, rfl, rfl⟩⟩
  · exact ⟨_, cap, rfl, hn, hm, .inr ⟨g, rfl, hb⟩⟩
end Go.Proofs.YtpbkjffiohfkcabGreatDoor
namespace Go.Proofs.YtpbkjffiohfkcabGreatDoor
open Go.RowKit
set_option linter.unusedVariables false
/-- A store of the document's: its block, and the row of its entries. -/
def DSt (w : World) (B db : Nat) (nd ck : Int) (l : List En) : Prop := ∃ v, w.heap[db]? = some (.cells #[.int .i64 nd, .int .i64 ck, v] 69 (0, 0)) ∧ w.ownsRow B 54 5 v l.length (entCells l)
theorem DSt.below {w w' : World} {B db : Nat} {nd ck : Int} {l : List En} (h : DSt w B db nd ck l) (b : Below w.heap.size w w') : DSt w' B db nd ck l := by
  obtain ⟨v, h1, h2⟩ := h
  exact ⟨v, blk_on h1 b, own_on h2 b⟩
/-- What Load says. -/
def LdSay (w : World) (nd ck : Int) (l : List En) (e : Ending) (w' : World) : Prop :=
  (LdOk nd ck l ∧ ∃ db, e = .returned (.tuple #[.pointer (some ⟨db, 0, none⟩), .int .i64 0]) ∧ w.heap.size ≤ db ∧ DSt w' w.heap.size db nd ck l) ∨ (¬ LdOk nd ck l ∧ ∃ c, c ≠ 0 ∧ e = .returned (.tuple #[.pointer none, .int .i64 c]))
theorem ldOk_of {nd ck : Int} {T : Nat → En} {len : Nat} (h1 : nodeB nd = true) (h3 : ¬ ck < 0) (h4 : ¬ 1099511627776 < ck) (h5 : ¬ (256 : Int) < (len : Int)) (hc : ckN T len = 0 ∧ ∀ i, i < len → (T i).c ≤ ck) : LdOk nd ck (firstE T len) :=
  ⟨h1, by omega, by omega, by rw [firstE_len]; omega, (ck_map len).1 hc.1, fun e he => by
    unfold firstE at he
    obtain ⟨i, hi, rfl⟩ := List.mem_map.1 he
    exact hc.2 i (List.mem_range.1 hi)⟩
set_option maxHeartbeats 3200000 in
set_option maxRecDepth 100000 in
theorem rload (nd ck : Int) (a : Option Addr) (len cap : Nat) (T : Nat → En) (w : World) (h : EntsIn w a len cap T) (hform : (a = none ∧ len = 0 ∧ cap = 0) ∨ ∃ y, a = some y) :
    Calls Tryz.prog 12 #[.int .i64 nd, .int .i64 ck, .slice a len cap] w fun e w' => Below w.heap.size w w' ∧ LdSay w nd ck (firstE T len) e w' := by
  have HE := aside h
  obtain ⟨hlc, hcm, -⟩ := h
  have hmx : (len : Int) ≤ 9223372036854775807 := by unfold maxLen at hcm; omega
  clear hlc hcm
  by_cases h1 : nd < 0
  · have HB := aside (node_no1 h1)
    go_enter Tryz.func12, Tryz.ntmps12
    go_wp2
    go_ret2
    exact ⟨Below.refl _ _, .inr ⟨fun k => by have := k.nd; first | (rw [HB.out] at this; cases this) | (simp only [firstE_len] at this; omega) | omega, _, by decide, rfl⟩⟩
  by_cases h2 : 8 ≤ nd
  · have HB := aside (node_no2 h2)
    go_enter Tryz.func12, Tryz.ntmps12
    go_wp2
    go_ret2
    exact ⟨Below.refl _ _, .inr ⟨fun k => by have := k.nd; first | (rw [HB.out] at this; cases this) | (simp only [firstE_len] at this; omega) | omega, _, by decide, rfl⟩⟩
  have HN := aside (node_yes h1 h2)
  by_cases h3 : ck < 0
  · have HB := aside h3
    go_enter Tryz.func12, Tryz.ntmps12
    go_wp2
    go_ret2
    exact ⟨Below.refl _ _, .inr ⟨fun k => by have := k.c0; first | (rw [HB.out] at this; cases this) | (simp only [firstE_len] at this; omega) | omega, _, by decide, rfl⟩⟩
  by_cases h4 : 1099511627776 < ck
  · have HB := aside h4
    go_enter Tryz.func12, Tryz.ntmps12
    go_wp2
    go_ret2
    exact ⟨Below.refl _ _, .inr ⟨fun k => by have := k.c1; first | (rw [HB.out] at this; cases this) | (simp only [firstE_len] at this; omega) | omega, _, by decide, rfl⟩⟩
  by_cases h5 : (256 : Int) < (len : Int)
  · have HB := aside h5
    go_enter Tryz.func12, Tryz.ntmps12
    go_wp2
    go_ret2
    exact ⟨Below.refl _ _, .inr ⟨fun k => by have := k.len; first | (rw [HB.out] at this; cases this) | (simp only [firstE_len] at this; omega) | omega, _, by decide, rfl⟩⟩
  have H3 := aside h3
  have H4 := aside h4
  have H5 := aside h5
  have HF := aside hform
  clear hform
  go_enter Tryz.func12, Tryz.ntmps12
  go_wp2
  clear h1 h2 h3 h4
  go_loopw [30] (fun i wr => ∃ j : Nat, i = .int .i64 (j : Int) ∧ j ≤ len ∧ Hid (ckN T j = 0 ∧ ∀ i, i < j → (T i).c ≤ ck) ∧ Below w.heap.size w wr) (fun i _ => len - (intOf i).toNat)
  case atStart => exact ⟨0, rfl, Nat.zero_le _, ⟨rfl, fun i hi => by omega⟩, Below.refl _ _⟩
  case round =>
    obtain ⟨j, rfl, hj, HC, hB⟩ := hrel
    have HB := aside hB
    clear hB
    by_cases hlt : (j : Int) < (len : Int)
    · have hE := HE.out.keep HB.out
      rcases hE.2.2 with h0 | ⟨b, off, rfl, hb, hc⟩
      · omega
      obtain ⟨⟨c0, c1, c2, c3, c4⟩, -⟩ := hc j (by omega)
      obtain ⟨q, hq⟩ : ∃ q, (T j).chk = q := ⟨_, rfl⟩
      have HQ := aside hq
      have hj0 : (0 : Int) ≤ (j : Int) := by omega
      have HCC := aside hc
      clear hc hE
      obtain ⟨t, ht⟩ : ∃ t, T j = t := ⟨_, rfl⟩
      have HT := aside ht
      rw [ht] at c0 c1 c2 c3 c4 hq
      have CQ := aside (fun W => chk_of t W hq _ ichkRef_any)
      clear ht hq
      by_cases hq0 : q = 0
      · subst hq0
        go_wp2_with fail
        refine (CQ.out _).mono ?_
        rintro e w1 ⟨rfl, b1⟩
        have B2 := aside (HB.out.trans ((bthen (bnew wr (.cells #[.string t.k, .int .i64 t.c, .int .i64 t.n, .string t.v, .bool t.d] 54)) b1).mono HB.out.size))
        have kb := blk_on (heap_alloc_new wr (.cells #[.string t.k, .int .i64 t.c, .int .i64 t.n, .string t.v, .bool t.d] 54)) b1
        obtain ⟨⟨e0, e1, -⟩, -⟩ := box5 kb
        generalize wr.heap.size = g at *
        have HC2 := aside (fun (i : Nat) (hi : i < len) => cell_in (HCC.out i hi).1.1 (bthen (bnew wr _) b1))
        clear b1 c0 c1 c2 c3 c4 kb CQ HCC
        cases j with
        | zero =>
          go_wp2_with fail
          refine wp_region_held_drew (S := fun W => Below w.heap.size w W ∧ W.cell? ⟨g, 1, none⟩ = some (.int .i64 t.c)) (by kernel_rfl) ⟨B2.out.drew, e1⟩ (fun hHeld => ?_)
          refine wpAnyH_take (i := 0) (v := ?_) rfl (by kernel_rfl) (by kernel_rfl) (by kernel_rfl) (fun _ _ _ h => h) (Or.inl ⟨by rfl, ?_⟩) (by assumption) ?_
          rotate_left
          · intro w hSw
            go_simp
            try with_reducible rfl
          simp only [Act.put, List.getElem_toArray, List.getElem_cons_zero, List.setIfInBounds_toArray, List.set_cons_zero, List.set_cons_succ]
          refine wpAnyH_take (i := 1) (v := ?_) rfl (by kernel_rfl) (by kernel_rfl) (by kernel_rfl) (fun _ _ _ h => h) (Or.inl ⟨by rfl, ?_⟩) (by assumption) ?_
          rotate_left
          · intro w hSw
            go_simp
            try with_reducible rfl
          simp only [Act.put, List.getElem_toArray, List.getElem_cons_zero, List.getElem_cons_succ, List.setIfInBounds_toArray, List.set_cons_zero, List.set_cons_succ]
          refine wpAnyH_take (i := 2) (v := ?_) rfl (by kernel_rfl) (by kernel_rfl) (by kernel_rfl) (fun _ _ _ h => h) (Or.inl ⟨by rfl, ?_⟩) (by assumption) ?_
          rotate_left
          · intro w hSw
            go_simp
            try with_reducible rfl
          simp only [Act.put, List.getElem_toArray, List.getElem_cons_zero, List.getElem_cons_succ, List.setIfInBounds_toArray, List.set_cons_zero, List.set_cons_succ]
          refine wpAnyH_take (i := 3) (v := undef) rfl (by kernel_rfl) (by kernel_rfl) (by kernel_rfl) (fun _ _ _ h => h) (Or.inr ⟨by rfl, rfl⟩) (by assumption) ?_
          simp only [Act.put, List.getElem_toArray, List.getElem_cons_zero, List.getElem_cons_succ, List.setIfInBounds_toArray, List.set_cons_zero, List.set_cons_succ]
          refine wpAnyH_take (i := 4) (v := undef) rfl (by kernel_rfl) (by kernel_rfl) (by kernel_rfl) (fun _ _ _ h => h) (Or.inr ⟨by rfl, rfl⟩) (by assumption) ?_
          simp only [Act.put, List.getElem_toArray, List.getElem_cons_zero, List.getElem_cons_succ, List.setIfInBounds_toArray, List.set_cons_zero, List.set_cons_succ]
          refine wpAnyH_take (i := 5) (v := undef) rfl (by kernel_rfl) (by kernel_rfl) (by kernel_rfl) (fun _ _ _ h => h) (Or.inr ⟨by rfl, rfl⟩) (by assumption) ?_
          simp only [Act.put, List.getElem_toArray, List.getElem_cons_zero, List.getElem_cons_succ, List.setIfInBounds_toArray, List.set_cons_zero, List.set_cons_succ]
          refine wpAnyH_take (i := 6) (v := undef) rfl (by kernel_rfl) (by kernel_rfl) (by kernel_rfl) (fun _ _ _ h => h) (Or.inr ⟨by rfl, rfl⟩) (by assumption) ?_
          simp only [Act.put, List.getElem_toArray, List.getElem_cons_zero, List.getElem_cons_succ, List.setIfInBounds_toArray, List.set_cons_zero, List.set_cons_succ]
          refine wpAnyH_take (i := 7) (v := undef) rfl (by kernel_rfl) (by kernel_rfl) (by kernel_rfl) (fun _ _ _ h => h) (Or.inr ⟨by rfl, rfl⟩) (by assumption) ?_
          simp only [Act.put, List.getElem_toArray, List.getElem_cons_zero, List.getElem_cons_succ, List.setIfInBounds_toArray, List.set_cons_zero, List.set_cons_succ]
          refine wpAnyH_take (i := 8) (v := undef) rfl (by kernel_rfl) (by kernel_rfl) (by kernel_rfl) (fun _ _ _ h => h) (Or.inr ⟨by rfl, rfl⟩) (by assumption) ?_
          simp only [Act.put, List.getElem_toArray, List.getElem_cons_zero, List.getElem_cons_succ, List.setIfInBounds_toArray, List.set_cons_zero, List.set_cons_succ]
          refine wpAnyH_take (i := 9) (v := undef) rfl (by kernel_rfl) (by kernel_rfl) (by kernel_rfl) (fun _ _ _ h => h) (Or.inr ⟨by rfl, rfl⟩) (by assumption) ?_
          simp only [Act.put, List.getElem_toArray, List.getElem_cons_zero, List.getElem_cons_succ, List.setIfInBounds_toArray, List.set_cons_zero, List.set_cons_succ]
          refine wpAnyH_take (i := 10) (v := undef) rfl (by kernel_rfl) (by kernel_rfl) (by kernel_rfl) (fun _ _ _ h => h) (Or.inr ⟨by rfl, rfl⟩) (by assumption) ?_
          simp only [Act.put, List.getElem_toArray, List.getElem_cons_zero, List.getElem_cons_succ, List.setIfInBounds_toArray, List.set_cons_zero, List.set_cons_succ]
          refine wpAnyH_take (i := 11) (v := undef) rfl (by kernel_rfl) (by kernel_rfl) (by kernel_rfl) (fun _ _ _ h => h) (Or.inr ⟨by rfl, rfl⟩) (by assumption) ?_
          simp only [Act.put, List.getElem_toArray, List.getElem_cons_zero, List.getElem_cons_succ, List.setIfInBounds_toArray, List.set_cons_zero, List.set_cons_succ]
          refine wpAnyH_take (i := 12) (v := ?_) rfl (by kernel_rfl) (by kernel_rfl) (by kernel_rfl) (fun _ _ _ h => h) (Or.inl ⟨by rfl, ?_⟩) (by assumption) ?_
          rotate_left
          · intro w hSw
            go_simp
            try with_reducible rfl
          simp only [Act.put, List.getElem_toArray, List.getElem_cons_zero, List.getElem_cons_succ, List.setIfInBounds_toArray, List.set_cons_zero, List.set_cons_succ]
          refine wpAnyH_done (by kernel_rfl) ?_ _
          have B3 := aside hHeld.1
          have C1 := aside hHeld.2
          clear hHeld e0 e1
          have cv := C1.out
          by_cases hv : ck < t.c
          · go_wp2
            go_ret2
            exact ⟨B3.out, .inr ⟨fun k9 => by have := k9.ver _ (first_mem (T := T) (j := 0) (by omega)); rw [HT.out] at this; omega, _, by decide, rfl⟩⟩
          · have HV := aside hv
            go_wp2
            go_roundw
            case rel => exact ⟨0 + 1, by go_num, by omega, ⟨(ckN_step HC.out.1).trans (chk_first HQ.out rfl), fun i hi => by rcases Nat.lt_succ_iff_lt_or_eq.1 hi with h9 | h9; exact HC.out.2 i h9; (subst h9; rw [HT.out]; have := HV.out; omega)⟩, B3.out⟩
            case measure => simp [intOf]; omega
        | succ k =>
          have d0 := HC2.out k (by omega)
          obtain ⟨u, hu⟩ : ∃ u, T k = u := ⟨_, rfl⟩
          have HU := aside hu
          rw [hu] at d0
          clear hu HC2
          have hk0 : (0 : Int) ≤ (k : Int) := by omega
          have hk1 : (k : Int) < (len : Int) := by omega
          have hk2 : (0 : Int) ≤ (k : Int) + 1 := by omega
          have hk3 : (0 : Int) < (k : Int) + 1 := by omega
          have hk4 : (k : Int) + 1 < (len : Int) := by omega
          have hw2 : IntKind.i64.wrap (k : Int) = (k : Int) := by simp only [IntKind.wrap_i64]; omega
          go_wp2_with fail
          refine wp_region_held_drew (S := fun W => Below w.heap.size w W ∧ W.cell? ⟨b, off + k * 5, none⟩ = some (.string u.k) ∧ W.cell? ⟨g, 0, none⟩ = some (.string t.k) ∧ W.cell? ⟨g, 1, none⟩ = some (.int .i64 t.c)) (by kernel_rfl) ⟨B2.out.drew, d0, e0, e1⟩ (fun hHeld => ?_)
          refine wpAnyH_take (i := 0) (v := ?_) rfl (by kernel_rfl) (by kernel_rfl) (by kernel_rfl) (fun _ _ _ h => h) (Or.inl ⟨by rfl, ?_⟩) (by assumption) ?_
          rotate_left
          · intro w hSw
            go_simp
            try with_reducible rfl
          simp only [Act.put, List.getElem_toArray, List.getElem_cons_zero, List.setIfInBounds_toArray, List.set_cons_zero, List.set_cons_succ]
          refine wpAnyH_take (i := 1) (v := ?_) rfl (by kernel_rfl) (by kernel_rfl) (by kernel_rfl) (fun _ _ _ h => h) (Or.inl ⟨by rfl, ?_⟩) (by assumption) ?_
          rotate_left
          · intro w hSw
            go_simp
            try with_reducible rfl
          simp only [Act.put, List.getElem_toArray, List.getElem_cons_zero, List.getElem_cons_succ, List.setIfInBounds_toArray, List.set_cons_zero, List.set_cons_succ]
          refine wpAnyH_take (i := 2) (v := ?_) rfl (by kernel_rfl) (by kernel_rfl) (by kernel_rfl) (fun _ _ _ h => h) (Or.inl ⟨by rfl, ?_⟩) (by assumption) ?_
          rotate_left
          · intro w hSw
            go_simp
            try with_reducible rfl
          simp only [Act.put, List.getElem_toArray, List.getElem_cons_zero, List.getElem_cons_succ, List.setIfInBounds_toArray, List.set_cons_zero, List.set_cons_succ]
          refine wpAnyH_take (i := 3) (v := ?_) rfl (by kernel_rfl) (by kernel_rfl) (by kernel_rfl) (fun _ _ _ h => h) (Or.inl ⟨by rfl, ?_⟩) (by assumption) ?_
          rotate_left
          · intro w hSw
            go_simp
            try with_reducible rfl
          simp only [Act.put, List.getElem_toArray, List.getElem_cons_zero, List.getElem_cons_succ, List.setIfInBounds_toArray, List.set_cons_zero, List.set_cons_succ]
          refine wpAnyH_take (i := 4) (v := ?_) rfl (by kernel_rfl) (by kernel_rfl) (by kernel_rfl) (fun _ _ _ h => h) (Or.inl ⟨by rfl, ?_⟩) (by assumption) ?_
          rotate_left
          · intro w hSw
            go_simp
            try with_reducible rfl
          simp only [Act.put, List.getElem_toArray, List.getElem_cons_zero, List.getElem_cons_succ, List.setIfInBounds_toArray, List.set_cons_zero, List.set_cons_succ]
          refine wpAnyH_take (i := 5) (v := ?_) rfl (by kernel_rfl) (by kernel_rfl) (by kernel_rfl) (fun _ _ _ h => h) (Or.inl ⟨by rfl, ?_⟩) (by assumption) ?_
          rotate_left
          · intro w hSw
            go_simp
            try with_reducible rfl
          simp only [Act.put, List.getElem_toArray, List.getElem_cons_zero, List.getElem_cons_succ, List.setIfInBounds_toArray, List.set_cons_zero, List.set_cons_succ]
          refine wpAnyH_take (i := 6) (v := ?_) rfl (by kernel_rfl) (by kernel_rfl) (by kernel_rfl) (fun _ _ _ h => h) (Or.inl ⟨by rfl, ?_⟩) (by assumption) ?_
          rotate_left
          · intro w hSw
            go_simp
            try with_reducible rfl
          simp only [Act.put, List.getElem_toArray, List.getElem_cons_zero, List.getElem_cons_succ, List.setIfInBounds_toArray, List.set_cons_zero, List.set_cons_succ]
          refine wpAnyH_take (i := 7) (v := ?_) rfl (by kernel_rfl) (by kernel_rfl) (by kernel_rfl) (fun _ _ _ h => h) (Or.inl ⟨by rfl, ?_⟩) (by assumption) ?_
          rotate_left
          · intro w hSw
            go_simp
            try with_reducible rfl
          simp only [Act.put, List.getElem_toArray, List.getElem_cons_zero, List.getElem_cons_succ, List.setIfInBounds_toArray, List.set_cons_zero, List.set_cons_succ]
          refine wpAnyH_take (i := 8) (v := ?_) rfl (by kernel_rfl) (by kernel_rfl) (by kernel_rfl) (fun _ _ _ h => h) (Or.inl ⟨by rfl, ?_⟩) (by assumption) ?_
          rotate_left
          · intro w hSw
            go_simp
            try with_reducible rfl
          simp only [Act.put, List.getElem_toArray, List.getElem_cons_zero, List.getElem_cons_succ, List.setIfInBounds_toArray, List.set_cons_zero, List.set_cons_succ]
          refine wpAnyH_take (i := 9) (v := ?_) rfl (by kernel_rfl) (by kernel_rfl) (by kernel_rfl) (fun _ _ _ h => h) (Or.inl ⟨by rfl, ?_⟩) (by assumption) ?_
          rotate_left
          · intro w hSw
            go_simp
            try with_reducible rfl
          simp only [Act.put, List.getElem_toArray, List.getElem_cons_zero, List.getElem_cons_succ, List.setIfInBounds_toArray, List.set_cons_zero, List.set_cons_succ]
          refine wpAnyH_take (i := 10) (v := ?_) rfl (by kernel_rfl) (by kernel_rfl) (by kernel_rfl) (fun _ _ _ h => h) (Or.inl ⟨by rfl, ?_⟩) (by assumption) ?_
          rotate_left
          · intro w hSw
            go_simp
            try with_reducible rfl
          simp only [Act.put, List.getElem_toArray, List.getElem_cons_zero, List.getElem_cons_succ, List.setIfInBounds_toArray, List.set_cons_zero, List.set_cons_succ]
          refine wpAnyH_take (i := 11) (v := .bool (!kLt u.k t.k)) rfl (by kernel_rfl) (by kernel_rfl) (by kernel_rfl) (fun _ _ _ h => h) (Or.inl ⟨by rfl, ?_⟩) (by assumption) ?_
          · intro w hSw
            go_simp
            exact leq_eq _ _
          simp only [Act.put, List.getElem_toArray, List.getElem_cons_zero, List.getElem_cons_succ, List.setIfInBounds_toArray, List.set_cons_zero, List.set_cons_succ]
          refine wpAnyH_take (i := 12) (v := ?_) rfl (by kernel_rfl) (by kernel_rfl) (by kernel_rfl) (fun _ _ _ h => h) (Or.inl ⟨by rfl, ?_⟩) (by assumption) ?_
          rotate_left
          · intro w hSw
            go_simp
            try with_reducible rfl
          simp only [Act.put, List.getElem_toArray, List.getElem_cons_zero, List.getElem_cons_succ, List.setIfInBounds_toArray, List.set_cons_zero, List.set_cons_succ]
          refine wpAnyH_done (by kernel_rfl) ?_ _
          have B3 := aside hHeld.1
          have C1 := aside hHeld.2.2.2
          clear hHeld hw2 e0 e1 d0
          have KQ := aside (chk_rising HQ.out rfl)
          rw [HU.out, HT.out] at KQ
          cases hkk : kLt u.k t.k
          · rw [hkk] at KQ
            go_wp2
            go_ret2
            refine ⟨B3.out, .inr ⟨fun k9 => ?_, _, by decide, rfl⟩⟩
            have h9 := (ck_map len).2 k9.map
            have := ckN_bad (n := len) HC.out.1 (by omega) (by rw [KQ.out]; decide)
            rw [KQ.out, h9] at this
            cases this
          · rw [hkk] at KQ
            have cv := C1.out
            by_cases hv : ck < t.c
            · go_wp2
              go_ret2
              exact ⟨B3.out, .inr ⟨fun k9 => by have := k9.ver _ (first_mem (T := T) (j := (k + 1)) (by omega)); rw [HT.out] at this; omega, _, by decide, rfl⟩⟩
            · have HV := aside hv
              go_wp2
              go_roundw
              case rel => exact ⟨(k + 1) + 1, by go_num, by omega, ⟨(ckN_step HC.out.1).trans KQ.out, fun i hi => by rcases Nat.lt_succ_iff_lt_or_eq.1 hi with h9 | h9; exact HC.out.2 i h9; (subst h9; rw [HT.out]; have := HV.out; omega)⟩, B3.out⟩
              case measure => simp [intOf]; omega
      · have HQ0 := aside hq0
        go_wp2_with fail
        refine (CQ.out _).mono ?_
        rintro e w1 ⟨rfl, b1⟩
        have B2 := aside (HB.out.trans ((bthen (bnew wr (.cells #[.string t.k, .int .i64 t.c, .int .i64 t.n, .string t.v, .bool t.d] 54)) b1).mono HB.out.size))
        clear b1 CQ c0 c1 c2 c3 c4
        have hqb : (q == 0) = false := by simpa using hq0
        go_wp2
        go_ret2
        exact ⟨B2.out, .inr ⟨fun k9 => HQ0.out (by have := k9.map.chk _ (first_mem (T := T) (j := j) (by omega)); rw [HQ.out] at this; exact this), _, HQ0.out, rfl⟩⟩
    · have hjl : j = len := by omega
      subst hjl
      have HEV := aside (HE.out.keep HB.out)
      go_wp2_with (at_builtin; refine wpList_plain rfl fun K hK => op_append_copy _ _ rfl (by rfl) a j cap T (by rfl) HEV.out HF.out (by have := H5.out; omega) ?_; intro v9 w3 own9 b9; refine hK _ _ ?_; refine Hid.out ?_)
      refine aside ?_
      obtain ⟨a9, c9, rfl, -, -, -⟩ := own_slice own9
      have O9 := aside own9
      have B9 := aside b9
      clear own9 b9 HEV
      go_wp2
      go_ret2
      refine ⟨(HB.out.trans (B9.out.mono HB.out.size)).alloc (by have := HB.out.size; have := B9.out.size; omega) _, .inl ⟨ldOk_of HN.out (by have := H3.out; omega) (by have := H4.out; omega) (by have := H5.out; omega) HC.out, w3.heap.size, rfl, by have := HB.out.size; have := B9.out.size; omega, _, heap_alloc_new w3 _, ?_⟩⟩
      rw [firstE_len]
      exact own_low (own_on O9.out (bnew w3 _)) HB.out.size
end Go.Proofs.YtpbkjffiohfkcabGreatDoor
namespace Go.Proofs.YtpbkjffiohfkcabGreatDoor
open Go.RowKit
set_option linter.unusedVariables false
/-- What came so far, with what is still to come, is all. -/
def PS (A : Nat → En) (la : Nat) (B : Nat → En) (lb : Nat) (pre : List (En × En)) (i j : Nat) : Prop :=
  pre ++ prs ((firstE A la).drop i) ((firstE B lb).drop j) = prs (firstE A la) (firstE B lb)
theorem PS.left {A : Nat → En} {la : Nat} {B : Nat → En} {lb : Nat} {pre : List (En × En)} {i j : Nat} (h : PS A la B lb pre i j) (hi : i < la) (hj : lb ≤ j) : PS A la B lb (pre ++ [(A i, eZ)]) (i + 1) j := by
  unfold PS at *
  rw [firstE_drop A hi, firstE_end B hj, prs_left] at h
  rw [firstE_end B hj, List.append_assoc]
  exact h
theorem PS.right {A : Nat → En} {la : Nat} {B : Nat → En} {lb : Nat} {pre : List (En × En)} {i j : Nat} (h : PS A la B lb pre i j) (hi : la ≤ i) (hj : j < lb) : PS A la B lb (pre ++ [(eZ, B j)]) i (j + 1) := by
  unfold PS at *
  rw [firstE_drop B hj, firstE_end A hi, prs_right] at h
  rw [firstE_end A hi, List.append_assoc]
  exact h
theorem PS.lt {A : Nat → En} {la : Nat} {B : Nat → En} {lb : Nat} {pre : List (En × En)} {i j : Nat} (h : PS A la B lb pre i j) (hi : i < la) (hj : j < lb) (hk : kLt (A i).k (B j).k = true) : PS A la B lb (pre ++ [(A i, eZ)]) (i + 1) j := by
  unfold PS at *
  rw [firstE_drop A hi, firstE_drop B hj, prs_lt _ _ hk, ← firstE_drop B hj] at h
  rw [List.append_assoc]
  exact h
theorem PS.gt {A : Nat → En} {la : Nat} {B : Nat → En} {lb : Nat} {pre : List (En × En)} {i j : Nat} (h : PS A la B lb pre i j) (hi : i < la) (hj : j < lb) (hk : kLt (A i).k (B j).k = false) (hk2 : kLt (B j).k (A i).k = true) : PS A la B lb (pre ++ [(eZ, B j)]) i (j + 1) := by
  unfold PS at *
  rw [firstE_drop A hi, firstE_drop B hj, prs_gt _ _ hk hk2, ← firstE_drop A hi] at h
  rw [List.append_assoc]
  exact h
theorem PS.eq {A : Nat → En} {la : Nat} {B : Nat → En} {lb : Nat} {pre : List (En × En)} {i j : Nat} (h : PS A la B lb pre i j) (hi : i < la) (hj : j < lb) (hk : kLt (A i).k (B j).k = false) (hk2 : kLt (B j).k (A i).k = false) : PS A la B lb (pre ++ [(A i, B j)]) (i + 1) (j + 1) := by
  unfold PS at *
  rw [firstE_drop A hi, firstE_drop B hj, prs_eq _ _ hk hk2] at h
  rw [List.append_assoc]
  exact h
theorem PS.done {A : Nat → En} {la : Nat} {B : Nat → En} {lb : Nat} {pre : List (En × En)} {i j : Nat} (h : PS A la B lb pre i j) (hi : la ≤ i) (hj : lb ≤ j) : pre = prs (firstE A la) (firstE B lb) := by
  unfold PS at h
  rw [firstE_end A hi, firstE_end B hj, prs_nil, List.append_nil] at h
  exact h
theorem PS.part {A : Nat → En} {la : Nat} {B : Nat → En} {lb : Nat} {pre : List (En × En)} {i j : Nat} (h : PS A la B lb pre i j) : ∃ r, pre ++ r = prs (firstE A la) (firstE B lb) := ⟨_, h⟩
end Go.Proofs.YtpbkjffiohfkcabGreatDoor
namespace Go.Proofs.YtpbkjffiohfkcabGreatDoor
open Go.RowKit
set_option linter.unusedVariables false
theorem ents_five {w : World} {b o len cap : Nat} {T : Nat → En} (h : EntsIn w (some ⟨b, o, none⟩) len cap T) {i : Nat} (hi : i < len) {x : En} (hx : T i = x) :
    w.cell? ⟨b, o + i * 5, none⟩ = some (.string x.k) ∧ w.cell? ⟨b, o + i * 5 + 1, none⟩ = some (.int .i64 x.c) ∧ w.cell? ⟨b, o + i * 5 + 2, none⟩ = some (.int .i64 x.n) ∧ w.cell? ⟨b, o + i * 5 + 3, none⟩ = some (.string x.v) ∧ w.cell? ⟨b, o + i * 5 + 4, none⟩ = some (.bool x.d) := by
  rcases h.2.2 with h0 | ⟨b', o', e, -, hc⟩
  · omega
  · cases e
    have := (hc i hi).1
    rw [hx] at this
    exact this
end Go.Proofs.YtpbkjffiohfkcabGreatDoor
namespace Go.Proofs.YtpbkjffiohfkcabGreatDoor
open Go.RowKit Go.Shelf
set_option linter.unusedVariables false
/-- What the iterator g does with whatever yield: it hands out all of S, or is stopped. The invariants may not mind what becomes of blocks that are no cells and were laid since. -/
def SeqO {α : Type} (P : Program) (g : Nat) (lb : Array Value) (encs : α → Array Value) (Kp : World → World → Prop) (S Sp : List α → Prop) (N : Nat) (w : World) : Prop :=
  ∀ (m l : Nat) (J Jx : List α → World → Prop) (W : World), Below w.heap.size w W → OwnFrom W.heap.size J → OwnFrom W.heap.size Jx →
    (∀ pre x W1, J pre W1 → pre.length < N → YieldAt Fence.wide m P l (encs x) W1 fun e W' =>
      KeepsFrom W.heap.size W1 W' ∧ ((e = .returned (.bool true) ∧ J (pre ++ [x]) W' ∧ Kp W1 W') ∨ (e = .returned (.bool false) ∧ Jx (pre ++ [x]) W'))) →
    J [] W →
    Calls P g (#[.func (.yield l) #[] #[]] ++ lb) W fun e W' => (∃ v, e = .returned v) ∧ ((∃ xs, S xs ∧ J xs W') ∨ (∃ pre, Sp pre ∧ Jx pre W'))
theorem SeqO.of_below {α : Type} {P : Program} {g : Nat} {lb : Array Value} {encs : α → Array Value} {Kp : World → World → Prop} {S Sp : List α → Prop} {N : Nat} {w w' : World} (h : SeqO P g lb encs Kp S Sp N w) (b : Below w.heap.size w w') : SeqO P g lb encs Kp S Sp N w' :=
  fun m l J Jx W hW => h m l J Jx W (b.trans (hW.mono b.size))
/-- The two blocks in which a loop keeps its own state. -/
structure Bk (B : Nat) (r : Loop) (W : World) : Prop where
  lp : W.heap[B + 1]? = some (.loop r)
  def_ : W.heap[B]? = some (.deferred (some []))
theorem Bk.put {B : Nat} {r : Loop} {W : World} (h : Bk B r W) (r' : Loop) : Bk B r' (W.putObj (B + 1) (.loop r')) :=
  ⟨World.putObj_heap_same (Array.getElem?_eq_some_iff.1 h.lp).1, (World.putObj_heap_other (by omega)).trans h.def_⟩
theorem Bk.kept {B : Nat} {r : Loop} {W W' : World} (h : Bk B r W) (k : KeepsFrom B W W') : Bk B r W' :=
  ⟨k.same _ _ (by omega) h.lp rfl, k.same _ _ (Nat.le_refl _) h.def_ rfl⟩
theorem Bk.grown {B C : Nat} {r : Loop} {W W' : World} {row : Option Nat} (h : Bk B r W) (hC : B + 2 ≤ C) (g : W.grownBy W' row) (hr : ∀ i, row = some i → C ≤ i) : Bk B r W' :=
  ⟨(g.block _ (Array.getElem?_eq_some_iff.1 h.lp).1 (fun e => by have := hr _ e.symm; omega)).trans h.lp, (g.block _ (Array.getElem?_eq_some_iff.1 h.def_).1 (fun e => by have := hr _ e.symm; omega)).trans h.def_⟩
theorem Bk.own {β : Type} {B C : Nat} {r : Loop} {I : β → World → Prop} (hI : OwnFrom B I) (hC : B + 2 ≤ C) : OwnFrom C (fun s W => I s W ∧ Bk B r W) :=
  fun s W W' row hs g hr => ⟨hI s W W' row hs.1 g (fun i e => ⟨by have := (hr i e).1; omega, (hr i e).2⟩), hs.2.grown hC g (fun i e => (hr i e).1)⟩
end Go.Proofs.YtpbkjffiohfkcabGreatDoor
namespace Go.Proofs.YtpbkjffiohfkcabGreatDoor
open Go.RowKit Go.Shelf
set_option linter.unusedVariables false
attribute [local go_sem] Oper.semAt_some
theorem cells_ownM {A B : World} {row : Option Nat} {i : Nat} {cs : Array Value} {T : TypeId} (h : A.heap[i]? = some (.cells cs T (0, 0))) (hg : A.grownBy B row) (hr : ∀ r, row = some r → ∃ o : Obj, A.heap[r]? = some o ∧ o.isCells = false) : B.heap[i]? = some (.cells cs T (0, 0)) := (grownBy_keeps_cells hg hr h rfl).trans h
theorem EntsIn.own {w w' : World} {row : Option Nat} {a : Option Addr} {len cap : Nat} {T : Nat → En} (h : EntsIn w a len cap T) (hg : w.grownBy w' row) (hr : ∀ r, row = some r → ∃ o : Obj, w.heap[r]? = some o ∧ o.isCells = false) : EntsIn w' a len cap T := by
  obtain ⟨h1, h2, h3⟩ := h
  refine ⟨h1, h2, ?_⟩
  rcases h3 with h3 | ⟨bb, off, rfl, hb, hc⟩
  · exact .inl h3
  · refine .inr ⟨bb, off, rfl, by have := hg.size; omega, fun i hi => ?_⟩
    obtain ⟨⟨c0, c1, c2, c3, c4⟩, hk⟩ := hc i hi
    exact ⟨⟨cell_kept c0 hg hr, cell_kept c1 hg hr, cell_kept c2 hg hr, cell_kept c3 hg hr, cell_kept c4 hg hr⟩, hk⟩
/-- What the iterator reads. -/
structure SD (Ba Bb : Nat) (a : Option Addr) (la ca : Nat) (A : Nat → En) (b : Option Addr) (lb cb : Nat) (B : Nat → En) (W : World) : Prop where
  xa : W.heap[Ba]? = some (.cells #[.slice a la ca] 22 (0, 0))
  xb : W.heap[Bb]? = some (.cells #[.slice b lb cb] 22 (0, 0))
  ea : EntsIn W a la ca A
  eb : EntsIn W b lb cb B
theorem SD.own {Ba Bb : Nat} {a : Option Addr} {la ca : Nat} {A : Nat → En} {b : Option Addr} {lb cb : Nat} {B : Nat → En} {W W' : World} {row : Option Nat} (h : SD Ba Bb a la ca A b lb cb B W) (hg : W.grownBy W' row) (hr : ∀ r, row = some r → ∃ o : Obj, W.heap[r]? = some o ∧ o.isCells = false) : SD Ba Bb a la ca A b lb cb B W' :=
  ⟨cells_ownM h.xa hg hr, cells_ownM h.xb hg hr, h.ea.own hg hr, h.eb.own hg hr⟩
theorem SD.keep {Ba Bb : Nat} {a : Option Addr} {la ca : Nat} {A : Nat → En} {b : Option Addr} {lb cb : Nat} {B : Nat → En} {W W' : World} (h : SD Ba Bb a la ca A b lb cb B W) (bb : Below W.heap.size W W') : SD Ba Bb a la ca A b lb cb B W' :=
  ⟨blk_on h.xa bb, blk_on h.xb bb, h.ea.keep bb, h.eb.keep bb⟩
/-- What a round leaves to the iterator. -/
def KpS (Ba Bb : Nat) (a : Option Addr) (la ca : Nat) (A : Nat → En) (b : Option Addr) (lb cb : Nat) (B : Nat → En) (W W' : World) : Prop := SD Ba Bb a la ca A b lb cb B W → SD Ba Bb a la ca A b lb cb B W'
theorem KpS.t {Ba Bb : Nat} {a : Option Addr} {la ca : Nat} {A : Nat → En} {b : Option Addr} {lb cb : Nat} {B : Nat → En} {X Y Z : World} (h : KpS Ba Bb a la ca A b lb cb B X Y) (k : KpS Ba Bb a la ca A b lb cb B Y Z) : KpS Ba Bb a la ca A b lb cb B X Z := fun s => k (h s)
theorem KpS.b {Ba Bb : Nat} {a : Option Addr} {la ca : Nat} {A : Nat → En} {b : Option Addr} {lb cb : Nat} {B : Nat → En} (W : World) (l : Nat) (o o' : Obj) (h : W.heap[l]? = some o) (ho : o.isCells = false) : KpS Ba Bb a la ca A b lb cb B W (W.putObj l o') :=
  fun s => s.own (grownBy_putObj' W l o') (fun r e => by cases e; exact ⟨_, h, ho⟩)
theorem grown_below {W W' : World} (h : Below W.heap.size W W') : W.grownBy W' none := ⟨h.os, h.tape, h.output, h.size, fun k hk _ => h.block k hk⟩
end Go.Proofs.YtpbkjffiohfkcabGreatDoor
namespace Go.Proofs.YtpbkjffiohfkcabGreatDoor
open Go.RowKit
set_option linter.unusedVariables false
end Go.Proofs.YtpbkjffiohfkcabGreatDoor

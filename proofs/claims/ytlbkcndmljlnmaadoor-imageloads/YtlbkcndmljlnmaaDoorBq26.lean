/-
  Check: which lists are maps, the code's and the document's own.
  What MixTurned needs: a place among n; rows of entries that grow and shrink side by side; sums of lists.
  The code's Load, of what a store can be made of.
  The document's Load: a store of its own, just if one can be made.
-/
import Derived.Test.YtlbkcndmljlnmaaDoorBq21
import Derived.Deep.RegionHeld
import Derived.Maps.AppendAt
namespace Go.Proofs.YtlbkcndmljlnmaaDoor
open Go.RowKit
set_option linter.unusedVariables false
theorem chk_rising {T : Nat → En} {k : Nat} {q : Int} (hq : (T (k + 1)).chk = q) (h0 : q = 0) : ckAt T (k + 1) = bif kLt (T k).k (T (k + 1)).k then 0 else 90 := by
  subst h0
  cases h : kLt (T k).k (T (k + 1)).k
  · exact ckAt_ord hq ⟨by omega, h⟩
  · exact ckAt_ok hq (fun g => by have := g.2; rw [show k + 1 - 1 = k from rfl, h] at this; cases this)
theorem chk_first {T : Nat → En} {q : Int} (hq : (T 0).chk = q) (h0 : q = 0) : ckAt T 0 = 0 := ckAt_ok (hq.trans h0) (fun g => by have := g.1; omega)
/-- x <= y of two texts, by the order. -/
theorem leq_eq (x y : ByteArray) : (Op.bytesLess x.toList y.toList || x.toList == y.toList) = !kLt y x := by
  unfold kLt
  cases h1 : Op.bytesLess x.toList y.toList <;> cases h2 : Op.bytesLess y.toList x.toList
  · have e := L_total _ _ h1 h2
    simp [e]
  · have e : (x.toList == y.toList) = false := by
      rw [beq_eq_false_iff_ne]; intro e; rw [e, L_irrefl] at h2; cases h2
    simp [e]
  · simp
  · have := L_trans _ _ _ h1 h2
    rw [L_irrefl] at this
    cases this
theorem chk_of (t : En) (w : World) {q : Int} (h : t.chk = q) (F : Nat) (C : ∀ (k : ByteArray) (c n : Int) (v : ByteArray) (d : Bool) (w : World), Calls Tryd.prog F #[.agg #[.string k, .int .i64 c, .int .i64 n, .string v, .bool d]] w fun e w' => e = .returned (.int .i64 (En.chk ⟨k, c, n, v, d⟩)) ∧ Below w.heap.size w w') :
    Calls Tryd.prog F #[.agg #[.string t.k, .int .i64 t.c, .int .i64 t.n, .string t.v, .bool t.d]] w fun e w' => e = .returned (.int .i64 q) ∧ Below w.heap.size w w' := by
  subst h
  exact C t.k t.c t.n t.v t.d w
end Go.Proofs.YtlbkcndmljlnmaaDoor
namespace Go.Proofs.YtlbkcndmljlnmaaDoor
open Go.RowKit
set_option linter.unusedVariables false
/-- An owned row's slice, in letters. -/
theorem own_slice {w : World} {B : Nat} {e : TypeId} {s : Nat} {v : Value} {n : Nat} {xs : List Value} (h : w.ownsRow B e s v n xs) : ∃ a c, v = .slice a n c ∧ n ≤ c ∧ c ≤ maxLen ∧ ((a = none ∧ n = 0 ∧ c = 0) ∨ ∃ g, a = some ⟨g, 0, none⟩ ∧ B ≤ g) := by
  rcases h.2 with ⟨rfl, rfl⟩ | ⟨g, cap, cur, rfl, hb, _, hn, hm, _⟩
  · exact ⟨none, 0, rfl, Nat.le_refl _, Nat.zero_le _, .inl ⟨rfl, rfl, rfl⟩⟩
  · exact ⟨_, cap, rfl, hn, hm, .inr ⟨g, rfl, hb⟩⟩
end Go.Proofs.YtlbkcndmljlnmaaDoor
namespace Go.Proofs.YtlbkcndmljlnmaaDoor
open Go.RowKit
set_option linter.unusedVariables false
set_option maxHeartbeats 3200000 in
set_option maxRecDepth 100000 in
theorem qhold (e : En) {w : World} {sb g tb : Nat} {nd ck : Int} {Ls : List En} (h : Sto w sb g tb nd ck Ls) (L : Lanes w) (hl : Ls.length ≤ 1000000) (hk : e.k.size ≤ 140737488351232) :
    Calls Tryd.prog 25 #[.pointer (some ⟨sb, 0, none⟩), .agg #[.string e.k, .int .i64 e.c, .int .i64 e.n, .string e.v, .bool e.d]] w fun r w' => r = .returned (.tuple #[]) ∧ Sto w' sb g tb nd (ckm ck e.c) (insE e Ls) ∧ Keeps (Of sb g tb) w w' ∧ Lanes w' := by
  obtain ⟨T, n, h1, h2⟩ := h
  exact (shold e h1 L h2 hl hk).mono fun r w' ⟨e1, e2, e3⟩ => ⟨e1, ⟨_, _, e2, h2.put e⟩, e3, L.keeps e3 (L.apart h1)⟩
end Go.Proofs.YtlbkcndmljlnmaaDoor
namespace Go.Proofs.YtlbkcndmljlnmaaDoor
open Go.RowKit
set_option linter.unusedVariables false
/-- A store of the document's: its block, and the row of its entries. -/
def DSt (w : World) (B db : Nat) (nd ck : Int) (l : List En) : Prop := ∃ v, w.heap[db]? = some (.cells #[.int .i64 nd, .int .i64 ck, v] 68 (0, 0)) ∧ w.ownsRow B 44 5 v l.length (entCells l)
theorem DSt.below {w w' : World} {B db : Nat} {nd ck : Int} {l : List En} (h : DSt w B db nd ck l) (b : Below w.heap.size w w') : DSt w' B db nd ck l := by
  obtain ⟨v, h1, h2⟩ := h
  exact ⟨v, blk_on h1 b, own_on h2 b⟩
/-- What Load says. -/
def LdSay (w : World) (nd ck : Int) (l : List En) (e : Ending) (w' : World) : Prop :=
  (LdOk nd ck l ∧ ∃ db, e = .returned (.tuple #[.pointer (some ⟨db, 0, none⟩), .int .i64 0]) ∧ w.heap.size ≤ db ∧ DSt w' w.heap.size db nd ck l) ∨ (¬ LdOk nd ck l ∧ ∃ c, c ≠ 0 ∧ e = .returned (.tuple #[.pointer none, .int .i64 c]))
theorem ldOk_of {nd ck : Int} {T : Nat → En} {len : Nat} (h1 : nodeB nd = true) (h3 : ¬ ck < 0) (h4 : ¬ 1099511627776 < ck) (h5 : ¬ (256 : Int) < (len : Int)) (hc : ckN T len = 0 ∧ ∀ i, i < len → (T i).c ≤ ck) : LdOk nd ck (firstE T len) :=
  ⟨h1, by omega, by omega, by rw [firstE_len]; omega, (ck_map len).1 hc.1, fun e he => by
    unfold firstE at he
    obtain ⟨i, hi, rfl⟩ := List.mem_map.1 he
    exact hc.2 i (List.mem_range.1 hi)⟩
set_option maxHeartbeats 3200000 in
set_option maxRecDepth 100000 in
theorem rload (nd ck : Int) (a : Option Addr) (len cap : Nat) (T : Nat → En) (w : World) (h : EntsIn w a len cap T) (hform : (a = none ∧ len = 0 ∧ cap = 0) ∨ ∃ y, a = some y) :
    Calls Tryd.prog 10 #[.int .i64 nd, .int .i64 ck, .slice a len cap] w fun e w' => Below w.heap.size w w' ∧ LdSay w nd ck (firstE T len) e w' := by
  have HE := aside h
  obtain ⟨hlc, hcm, -⟩ := h
  have hmx : (len : Int) ≤ 9223372036854775807 := by unfold maxLen at hcm; omega
  clear hlc hcm
  by_cases h1 : nd < 0
  · have HB := aside (node_no1 h1)
    go_enter Tryd.func10, Tryd.ntmps10
    go_wp2
    go_ret2
    exact ⟨Below.refl _ _, .inr ⟨fun k => by have := k.nd; first | (rw [HB.out] at this; cases this) | (simp only [firstE_len] at this; omega) | omega, _, by decide, rfl⟩⟩
  by_cases h2 : 8 ≤ nd
  · have HB := aside (node_no2 h2)
    go_enter Tryd.func10, Tryd.ntmps10
    go_wp2
    go_ret2
    exact ⟨Below.refl _ _, .inr ⟨fun k => by have := k.nd; first | (rw [HB.out] at this; cases this) | (simp only [firstE_len] at this; omega) | omega, _, by decide, rfl⟩⟩
  have HN := aside (node_yes h1 h2)
  by_cases h3 : ck < 0
  · have HB := aside h3
    go_enter Tryd.func10, Tryd.ntmps10
    go_wp2
    go_ret2
    exact ⟨Below.refl _ _, .inr ⟨fun k => by have := k.c0; first | (rw [HB.out] at this; cases this) | (simp only [firstE_len] at this; omega) | omega, _, by decide, rfl⟩⟩
  by_cases h4 : 1099511627776 < ck
  · have HB := aside h4
    go_enter Tryd.func10, Tryd.ntmps10
    go_wp2
    go_ret2
    exact ⟨Below.refl _ _, .inr ⟨fun k => by have := k.c1; first | (rw [HB.out] at this; cases this) | (simp only [firstE_len] at this; omega) | omega, _, by decide, rfl⟩⟩
  by_cases h5 : (256 : Int) < (len : Int)
  · have HB := aside h5
    go_enter Tryd.func10, Tryd.ntmps10
    go_wp2
    go_ret2
    exact ⟨Below.refl _ _, .inr ⟨fun k => by have := k.len; first | (rw [HB.out] at this; cases this) | (simp only [firstE_len] at this; omega) | omega, _, by decide, rfl⟩⟩
  have H3 := aside h3
  have H4 := aside h4
  have H5 := aside h5
  have HF := aside hform
  clear hform
  go_enter Tryd.func10, Tryd.ntmps10
  go_wp2
  clear h1 h2 h3 h4
  go_loopw [30] (fun i wr => ∃ j : Nat, i = .int .i64 (j : Int) ∧ j ≤ len ∧ Hid (ckN T j = 0 ∧ ∀ i, i < j → (T i).c ≤ ck) ∧ Below w.heap.size w wr) (fun i _ => len - (intOf i).toNat)
  case atStart => exact ⟨0, rfl, Nat.zero_le _, ⟨rfl, fun i hi => by omega⟩, Below.refl _ _⟩
  case round =>
    obtain ⟨j, rfl, hj, HC, hB⟩ := hrel
    have HB := aside hB
    clear hB
    by_cases hlt : (j : Int) < (len : Int)
    · have hE := HE.out.keep HB.out
      rcases hE.2.2 with h0 | ⟨b, off, rfl, hb, hc⟩
      · omega
      obtain ⟨⟨c0, c1, c2, c3, c4⟩, -⟩ := hc j (by omega)
      obtain ⟨q, hq⟩ : ∃ q, (T j).chk = q := ⟨_, rfl⟩
      have HQ := aside hq
      have hj0 : (0 : Int) ≤ (j : Int) := by omega
      have HCC := aside hc
      clear hc hE
      obtain ⟨t, ht⟩ : ∃ t, T j = t := ⟨_, rfl⟩
      have HT := aside ht
      rw [ht] at c0 c1 c2 c3 c4 hq
      have CQ := aside (fun W => chk_of t W hq _ ichkRef_any)
      clear ht hq
      by_cases hq0 : q = 0
      · subst hq0
        go_wp2_with fail
        refine (CQ.out _).mono ?_
        rintro e w1 ⟨rfl, b1⟩
        have B2 := aside (HB.out.trans ((bthen (bnew wr (.cells #[.string t.k, .int .i64 t.c, .int .i64 t.n, .string t.v, .bool t.d] 44)) b1).mono HB.out.size))
        have kb := blk_on (heap_alloc_new wr (.cells #[.string t.k, .int .i64 t.c, .int .i64 t.n, .string t.v, .bool t.d] 44)) b1
        obtain ⟨⟨e0, e1, -⟩, -⟩ := box5 kb
        generalize wr.heap.size = g at *
        have HC2 := aside (fun (i : Nat) (hi : i < len) => cell_in (HCC.out i hi).1.1 (bthen (bnew wr _) b1))
        clear b1 c0 c1 c2 c3 c4 kb CQ HCC
        cases j with
        | zero =>
          go_wp2_with fail
          refine wp_region_held_drew (S := fun W => Below w.heap.size w W ∧ W.cell? ⟨g, 1, none⟩ = some (.int .i64 t.c)) (by kernel_rfl) ⟨B2.out.drew, e1⟩ (fun hHeld => ?_)
          refine wpAnyH_take (i := 0) (v := ?_) rfl (by kernel_rfl) (by kernel_rfl) (by kernel_rfl) (fun _ _ _ h => h) (Or.inl ⟨by rfl, ?_⟩) (by assumption) ?_
          rotate_left
          · intro w hSw
            go_simp
            try with_reducible rfl
          simp only [Act.put, List.getElem_toArray, List.getElem_cons_zero, List.setIfInBounds_toArray, List.set_cons_zero, List.set_cons_succ]
          refine wpAnyH_take (i := 1) (v := ?_) rfl (by kernel_rfl) (by kernel_rfl) (by kernel_rfl) (fun _ _ _ h => h) (Or.inl ⟨by rfl, ?_⟩) (by assumption) ?_
          rotate_left
          · intro w hSw
            go_simp
            try with_reducible rfl
          simp only [Act.put, List.getElem_toArray, List.getElem_cons_zero, List.getElem_cons_succ, List.setIfInBounds_toArray, List.set_cons_zero, List.set_cons_succ]
          refine wpAnyH_take (i := 2) (v := ?_) rfl (by kernel_rfl) (by kernel_rfl) (by kernel_rfl) (fun _ _ _ h => h) (Or.inl ⟨by rfl, ?_⟩) (by assumption) ?_
          rotate_left
          · intro w hSw
            go_simp
            try with_reducible rfl
          simp only [Act.put, List.getElem_toArray, List.getElem_cons_zero, List.getElem_cons_succ, List.setIfInBounds_toArray, List.set_cons_zero, List.set_cons_succ]
          refine wpAnyH_take (i := 3) (v := undef) rfl (by kernel_rfl) (by kernel_rfl) (by kernel_rfl) (fun _ _ _ h => h) (Or.inr ⟨by rfl, rfl⟩) (by assumption) ?_
          simp only [Act.put, List.getElem_toArray, List.getElem_cons_zero, List.getElem_cons_succ, List.setIfInBounds_toArray, List.set_cons_zero, List.set_cons_succ]
          refine wpAnyH_take (i := 4) (v := undef) rfl (by kernel_rfl) (by kernel_rfl) (by kernel_rfl) (fun _ _ _ h => h) (Or.inr ⟨by rfl, rfl⟩) (by assumption) ?_
          simp only [Act.put, List.getElem_toArray, List.getElem_cons_zero, List.getElem_cons_succ, List.setIfInBounds_toArray, List.set_cons_zero, List.set_cons_succ]
          refine wpAnyH_take (i := 5) (v := undef) rfl (by kernel_rfl) (by kernel_rfl) (by kernel_rfl) (fun _ _ _ h => h) (Or.inr ⟨by rfl, rfl⟩) (by assumption) ?_
          simp only [Act.put, List.getElem_toArray, List.getElem_cons_zero, List.getElem_cons_succ, List.setIfInBounds_toArray, List.set_cons_zero, List.set_cons_succ]
          refine wpAnyH_take (i := 6) (v := undef) rfl (by kernel_rfl) (by kernel_rfl) (by kernel_rfl) (fun _ _ _ h => h) (Or.inr ⟨by rfl, rfl⟩) (by assumption) ?_
          simp only [Act.put, List.getElem_toArray, List.getElem_cons_zero, List.getElem_cons_succ, List.setIfInBounds_toArray, List.set_cons_zero, List.set_cons_succ]
          refine wpAnyH_take (i := 7) (v := undef) rfl (by kernel_rfl) (by kernel_rfl) (by kernel_rfl) (fun _ _ _ h => h) (Or.inr ⟨by rfl, rfl⟩) (by assumption) ?_
          simp only [Act.put, List.getElem_toArray, List.getElem_cons_zero, List.getElem_cons_succ, List.setIfInBounds_toArray, List.set_cons_zero, List.set_cons_succ]
          refine wpAnyH_take (i := 8) (v := undef) rfl (by kernel_rfl) (by kernel_rfl) (by kernel_rfl) (fun _ _ _ h => h) (Or.inr ⟨by rfl, rfl⟩) (by assumption) ?_
          simp only [Act.put, List.getElem_toArray, List.getElem_cons_zero, List.getElem_cons_succ, List.setIfInBounds_toArray, List.set_cons_zero, List.set_cons_succ]
          refine wpAnyH_take (i := 9) (v := undef) rfl (by kernel_rfl) (by kernel_rfl) (by kernel_rfl) (fun _ _ _ h => h) (Or.inr ⟨by rfl, rfl⟩) (by assumption) ?_
          simp only [Act.put, List.getElem_toArray, List.getElem_cons_zero, List.getElem_cons_succ, List.setIfInBounds_toArray, List.set_cons_zero, List.set_cons_succ]
          refine wpAnyH_take (i := 10) (v := undef) rfl (by kernel_rfl) (by kernel_rfl) (by kernel_rfl) (fun _ _ _ h => h) (Or.inr ⟨by rfl, rfl⟩) (by assumption) ?_
          simp only [Act.put, List.getElem_toArray, List.getElem_cons_zero, List.getElem_cons_succ, List.setIfInBounds_toArray, List.set_cons_zero, List.set_cons_succ]
          refine wpAnyH_take (i := 11) (v := undef) rfl (by kernel_rfl) (by kernel_rfl) (by kernel_rfl) (fun _ _ _ h => h) (Or.inr ⟨by rfl, rfl⟩) (by assumption) ?_
          simp only [Act.put, List.getElem_toArray, List.getElem_cons_zero, List.getElem_cons_succ, List.setIfInBounds_toArray, List.set_cons_zero, List.set_cons_succ]
          refine wpAnyH_take (i := 12) (v := ?_) rfl (by kernel_rfl) (by kernel_rfl) (by kernel_rfl) (fun _ _ _ h => h) (Or.inl ⟨by rfl, ?_⟩) (by assumption) ?_
          rotate_left
          · intro w hSw
            go_simp
            try with_reducible rfl
          simp only [Act.put, List.getElem_toArray, List.getElem_cons_zero, List.getElem_cons_succ, List.setIfInBounds_toArray, List.set_cons_zero, List.set_cons_succ]
          refine wpAnyH_done (by kernel_rfl) ?_ _
          have B3 := aside hHeld.1
          have C1 := aside hHeld.2
          clear hHeld e0 e1
          have cv := C1.out
          by_cases hv : ck < t.c
          · go_wp2
            go_ret2
            exact ⟨B3.out, .inr ⟨fun k9 => by have := k9.ver _ (first_mem (T := T) (j := 0) (by omega)); rw [HT.out] at this; omega, _, by decide, rfl⟩⟩
          · have HV := aside hv
            go_wp2
            go_roundw
            case rel => exact ⟨0 + 1, by go_num, by omega, ⟨(ckN_step HC.out.1).trans (chk_first HQ.out rfl), fun i hi => by rcases Nat.lt_succ_iff_lt_or_eq.1 hi with h9 | h9; exact HC.out.2 i h9; (subst h9; rw [HT.out]; have := HV.out; omega)⟩, B3.out⟩
            case measure => simp [intOf]; omega
        | succ k =>
          have d0 := HC2.out k (by omega)
          obtain ⟨u, hu⟩ : ∃ u, T k = u := ⟨_, rfl⟩
          have HU := aside hu
          rw [hu] at d0
          clear hu HC2
          have hk0 : (0 : Int) ≤ (k : Int) := by omega
          have hk1 : (k : Int) < (len : Int) := by omega
          have hk2 : (0 : Int) ≤ (k : Int) + 1 := by omega
          have hk3 : (0 : Int) < (k : Int) + 1 := by omega
          have hk4 : (k : Int) + 1 < (len : Int) := by omega
          have hw2 : IntKind.i64.wrap (k : Int) = (k : Int) := by simp only [IntKind.wrap_i64]; omega
          go_wp2_with fail
          refine wp_region_held_drew (S := fun W => Below w.heap.size w W ∧ W.cell? ⟨b, off + k * 5, none⟩ = some (.string u.k) ∧ W.cell? ⟨g, 0, none⟩ = some (.string t.k) ∧ W.cell? ⟨g, 1, none⟩ = some (.int .i64 t.c)) (by kernel_rfl) ⟨B2.out.drew, d0, e0, e1⟩ (fun hHeld => ?_)
          refine wpAnyH_take (i := 0) (v := ?_) rfl (by kernel_rfl) (by kernel_rfl) (by kernel_rfl) (fun _ _ _ h => h) (Or.inl ⟨by rfl, ?_⟩) (by assumption) ?_
          rotate_left
          · intro w hSw
            go_simp
            try with_reducible rfl
          simp only [Act.put, List.getElem_toArray, List.getElem_cons_zero, List.setIfInBounds_toArray, List.set_cons_zero, List.set_cons_succ]
          refine wpAnyH_take (i := 1) (v := ?_) rfl (by kernel_rfl) (by kernel_rfl) (by kernel_rfl) (fun _ _ _ h => h) (Or.inl ⟨by rfl, ?_⟩) (by assumption) ?_
          rotate_left
          · intro w hSw
            go_simp
            try with_reducible rfl
          simp only [Act.put, List.getElem_toArray, List.getElem_cons_zero, List.getElem_cons_succ, List.setIfInBounds_toArray, List.set_cons_zero, List.set_cons_succ]
          refine wpAnyH_take (i := 2) (v := ?_) rfl (by kernel_rfl) (by kernel_rfl) (by kernel_rfl) (fun _ _ _ h => h) (Or.inl ⟨by rfl, ?_⟩) (by assumption) ?_
          rotate_left
          · intro w hSw
            go_simp
            try with_reducible rfl
          simp only [Act.put, List.getElem_toArray, List.getElem_cons_zero, List.getElem_cons_succ, List.setIfInBounds_toArray, List.set_cons_zero, List.set_cons_succ]
          refine wpAnyH_take (i := 3) (v := ?_) rfl (by kernel_rfl) (by kernel_rfl) (by kernel_rfl) (fun _ _ _ h => h) (Or.inl ⟨by rfl, ?_⟩) (by assumption) ?_
          rotate_left
          · intro w hSw
            go_simp
            try with_reducible rfl
          simp only [Act.put, List.getElem_toArray, List.getElem_cons_zero, List.getElem_cons_succ, List.setIfInBounds_toArray, List.set_cons_zero, List.set_cons_succ]
          refine wpAnyH_take (i := 4) (v := ?_) rfl (by kernel_rfl) (by kernel_rfl) (by kernel_rfl) (fun _ _ _ h => h) (Or.inl ⟨by rfl, ?_⟩) (by assumption) ?_
          rotate_left
          · intro w hSw
            go_simp
            try with_reducible rfl
          simp only [Act.put, List.getElem_toArray, List.getElem_cons_zero, List.getElem_cons_succ, List.setIfInBounds_toArray, List.set_cons_zero, List.set_cons_succ]
          refine wpAnyH_take (i := 5) (v := ?_) rfl (by kernel_rfl) (by kernel_rfl) (by kernel_rfl) (fun _ _ _ h => h) (Or.inl ⟨by rfl, ?_⟩) (by assumption) ?_
          rotate_left
          · intro w hSw
            go_simp
            try with_reducible rfl
          simp only [Act.put, List.getElem_toArray, List.getElem_cons_zero, List.getElem_cons_succ, List.setIfInBounds_toArray, List.set_cons_zero, List.set_cons_succ]
          refine wpAnyH_take (i := 6) (v := ?_) rfl (by kernel_rfl) (by kernel_rfl) (by kernel_rfl) (fun _ _ _ h => h) (Or.inl ⟨by rfl, ?_⟩) (by assumption) ?_
          rotate_left
          · intro w hSw
            go_simp
            try with_reducible rfl
          simp only [Act.put, List.getElem_toArray, List.getElem_cons_zero, List.getElem_cons_succ, List.setIfInBounds_toArray, List.set_cons_zero, List.set_cons_succ]
          refine wpAnyH_take (i := 7) (v := ?_) rfl (by kernel_rfl) (by kernel_rfl) (by kernel_rfl) (fun _ _ _ h => h) (Or.inl ⟨by rfl, ?_⟩) (by assumption) ?_
          rotate_left
          · intro w hSw
            go_simp
            try with_reducible rfl
          simp only [Act.put, List.getElem_toArray, List.getElem_cons_zero, List.getElem_cons_succ, List.setIfInBounds_toArray, List.set_cons_zero, List.set_cons_succ]
          refine wpAnyH_take (i := 8) (v := ?_) rfl (by kernel_rfl) (by kernel_rfl) (by kernel_rfl) (fun _ _ _ h => h) (Or.inl ⟨by rfl, ?_⟩) (by assumption) ?_
          rotate_left
          · intro w hSw
            go_simp
            try with_reducible rfl
          simp only [Act.put, List.getElem_toArray, List.getElem_cons_zero, List.getElem_cons_succ, List.setIfInBounds_toArray, List.set_cons_zero, List.set_cons_succ]
          refine wpAnyH_take (i := 9) (v := ?_) rfl (by kernel_rfl) (by kernel_rfl) (by kernel_rfl) (fun _ _ _ h => h) (Or.inl ⟨by rfl, ?_⟩) (by assumption) ?_
          rotate_left
          · intro w hSw
            go_simp
            try with_reducible rfl
          simp only [Act.put, List.getElem_toArray, List.getElem_cons_zero, List.getElem_cons_succ, List.setIfInBounds_toArray, List.set_cons_zero, List.set_cons_succ]
          refine wpAnyH_take (i := 10) (v := ?_) rfl (by kernel_rfl) (by kernel_rfl) (by kernel_rfl) (fun _ _ _ h => h) (Or.inl ⟨by rfl, ?_⟩) (by assumption) ?_
          rotate_left
          · intro w hSw
            go_simp
            try with_reducible rfl
          simp only [Act.put, List.getElem_toArray, List.getElem_cons_zero, List.getElem_cons_succ, List.setIfInBounds_toArray, List.set_cons_zero, List.set_cons_succ]
          refine wpAnyH_take (i := 11) (v := .bool (!kLt u.k t.k)) rfl (by kernel_rfl) (by kernel_rfl) (by kernel_rfl) (fun _ _ _ h => h) (Or.inl ⟨by rfl, ?_⟩) (by assumption) ?_
          · intro w hSw
            go_simp
            exact leq_eq _ _
          simp only [Act.put, List.getElem_toArray, List.getElem_cons_zero, List.getElem_cons_succ, List.setIfInBounds_toArray, List.set_cons_zero, List.set_cons_succ]
          refine wpAnyH_take (i := 12) (v := ?_) rfl (by kernel_rfl) (by kernel_rfl) (by kernel_rfl) (fun _ _ _ h => h) (Or.inl ⟨by rfl, ?_⟩) (by assumption) ?_
          rotate_left
          · intro w hSw
            go_simp
            try with_reducible rfl
          simp only [Act.put, List.getElem_toArray, List.getElem_cons_zero, List.getElem_cons_succ, List.setIfInBounds_toArray, List.set_cons_zero, List.set_cons_succ]
          refine wpAnyH_done (by kernel_rfl) ?_ _
          have B3 := aside hHeld.1
          have C1 := aside hHeld.2.2.2
          clear hHeld hw2 e0 e1 d0
          have KQ := aside (chk_rising HQ.out rfl)
          rw [HU.out, HT.out] at KQ
          cases hkk : kLt u.k t.k
          · rw [hkk] at KQ
            go_wp2
            go_ret2
            refine ⟨B3.out, .inr ⟨fun k9 => ?_, _, by decide, rfl⟩⟩
            have h9 := (ck_map len).2 k9.map
            have := ckN_bad (n := len) HC.out.1 (by omega) (by rw [KQ.out]; decide)
            rw [KQ.out, h9] at this
            cases this
          · rw [hkk] at KQ
            have cv := C1.out
            by_cases hv : ck < t.c
            · go_wp2
              go_ret2
              exact ⟨B3.out, .inr ⟨fun k9 => by have := k9.ver _ (first_mem (T := T) (j := (k + 1)) (by omega)); rw [HT.out] at this; omega, _, by decide, rfl⟩⟩
            · have HV := aside hv
              go_wp2
              go_roundw
              case rel => exact ⟨(k + 1) + 1, by go_num, by omega, ⟨(ckN_step HC.out.1).trans KQ.out, fun i hi => by rcases Nat.lt_succ_iff_lt_or_eq.1 hi with h9 | h9; exact HC.out.2 i h9; (subst h9; rw [HT.out]; have := HV.out; omega)⟩, B3.out⟩
              case measure => simp [intOf]; omega
      · have HQ0 := aside hq0
        go_wp2_with fail
        refine (CQ.out _).mono ?_
        rintro e w1 ⟨rfl, b1⟩
        have B2 := aside (HB.out.trans ((bthen (bnew wr (.cells #[.string t.k, .int .i64 t.c, .int .i64 t.n, .string t.v, .bool t.d] 44)) b1).mono HB.out.size))
        clear b1 CQ c0 c1 c2 c3 c4
        have hqb : (q == 0) = false := by simpa using hq0
        go_wp2
        go_ret2
        exact ⟨B2.out, .inr ⟨fun k9 => HQ0.out (by have := k9.map.chk _ (first_mem (T := T) (j := j) (by omega)); rw [HQ.out] at this; exact this), _, HQ0.out, rfl⟩⟩
    · have hjl : j = len := by omega
      subst hjl
      have HEV := aside (HE.out.keep HB.out)
      go_wp2_with (at_builtin; refine wpList_plain rfl fun K hK => op_append_copy _ _ rfl (by rfl) a j cap T (by rfl) HEV.out HF.out (by have := H5.out; omega) ?_; intro v9 w3 own9 b9; refine hK _ _ ?_; refine Hid.out ?_)
      refine aside ?_
      obtain ⟨a9, c9, rfl, -, -, -⟩ := own_slice own9
      have O9 := aside own9
      have B9 := aside b9
      clear own9 b9 HEV
      go_wp2
      go_ret2
      refine ⟨(HB.out.trans (B9.out.mono HB.out.size)).alloc (by have := HB.out.size; have := B9.out.size; omega) _, .inl ⟨ldOk_of HN.out (by have := H3.out; omega) (by have := H4.out; omega) (by have := H5.out; omega) HC.out, w3.heap.size, rfl, by have := HB.out.size; have := B9.out.size; omega, _, heap_alloc_new w3 _, ?_⟩⟩
      rw [firstE_len]
      exact own_low (own_on O9.out (bnew w3 _)) HB.out.size
end Go.Proofs.YtlbkcndmljlnmaaDoor

/-
  Check: which lists are maps, the code's and the document's own.
  What MixTurned needs: a place among n; rows of entries that grow and shrink side by side; sums of lists.
  The code's Load, of what a store can be made of.
  The document's Load: a store of its own, just if one can be made.
  The code's Load of a store: just if one can be made.
-/
import Derived.Test.YtlbkcndmljlnmaaDoorBx19
import Derived.Deep.RegionHeld
import Derived.Maps.AppendAt
namespace Go.Proofs.YtlbkcndmljlnmaaDoor
open Go.RowKit
set_option linter.unusedVariables false
theorem chk_rising {T : Nat → En} {k : Nat} {q : Int} (hq : (T (k + 1)).chk = q) (h0 : q = 0) : ckAt T (k + 1) = bif kLt (T k).k (T (k + 1)).k then 0 else 90 := by
  subst h0
  cases h : kLt (T k).k (T (k + 1)).k
  · exact ckAt_ord hq ⟨by omega, h⟩
  · exact ckAt_ok hq (fun g => by have := g.2; rw [show k + 1 - 1 = k from rfl, h] at this; cases this)
theorem chk_first {T : Nat → En} {q : Int} (hq : (T 0).chk = q) (h0 : q = 0) : ckAt T 0 = 0 := ckAt_ok (hq.trans h0) (fun g => by have := g.1; omega)
/-- x <= y of two texts, by the order. -/
theorem leq_eq (x y : ByteArray) : (Op.bytesLess x.toList y.toList || x.toList == y.toList) = !kLt y x := by
  unfold kLt
  cases h1 : Op.bytesLess x.toList y.toList <;> cases h2 : Op.bytesLess y.toList x.toList
  · have e := L_total _ _ h1 h2
    simp [e]
  · have e : (x.toList == y.toList) = false := by
      rw [beq_eq_false_iff_ne]; intro e; rw [e, L_irrefl] at h2; cases h2
    simp [e]
  · simp
  · have := L_trans _ _ _ h1 h2
    rw [L_irrefl] at this
    cases this
theorem chk_of (t : En) (w : World) {q : Int} (h : t.chk = q) (F : Nat) (C : ∀ (k : ByteArray) (c n : Int) (v : ByteArray) (d : Bool) (w : World), Calls Tryd.prog F #[.agg #[.string k, .int .i64 c, .int .i64 n, .string v, .bool d]] w fun e w' => e = .returned (.int .i64 (En.chk ⟨k, c, n, v, d⟩)) ∧ Below w.heap.size w w') :
    Calls Tryd.prog F #[.agg #[.string t.k, .int .i64 t.c, .int .i64 t.n, .string t.v, .bool t.d]] w fun e w' => e = .returned (.int .i64 q) ∧ Below w.heap.size w w' := by
  subst h
  exact C t.k t.c t.n t.v t.d w
end Go.Proofs.YtlbkcndmljlnmaaDoor
namespace Go.Proofs.YtlbkcndmljlnmaaDoor
open Go.RowKit
set_option linter.unusedVariables false
/-- An owned row's slice, in letters. -/
theorem own_slice {w : World} {B : Nat} {e : TypeId} {s : Nat} {v : Value} {n : Nat} {xs : List Value} (h : w.ownsRow B e s v n xs) : ∃ a c, v = .slice a n c ∧ n ≤ c ∧ c ≤ maxLen ∧ ((a = none ∧ n = 0 ∧ c = 0) ∨ ∃ g, a = some ⟨g, 0, none⟩ ∧ B ≤ g) := by
  rcases h.2 with ⟨rfl, rfl⟩ | ⟨g, cap, cur, rfl, hb, _, hn, hm, _⟩
  · exact ⟨none, 0, rfl, Nat.le_refl _, Nat.zero_le _, .inl ⟨rfl, rfl, rfl⟩⟩
  · exact ⟨_, cap, rfl, hn, hm, .inr ⟨g, rfl, hb⟩⟩
end Go.Proofs.YtlbkcndmljlnmaaDoor
namespace Go.Proofs.YtlbkcndmljlnmaaDoor
open Go.RowKit
set_option linter.unusedVariables false
set_option maxHeartbeats 3200000 in
set_option maxRecDepth 100000 in
theorem qhold (e : En) {w : World} {sb g tb : Nat} {nd ck : Int} {Ls : List En} (h : Sto w sb g tb nd ck Ls) (L : Lanes w) (hl : Ls.length ≤ 1000000) (hk : e.k.size ≤ 140737488351232) :
    Calls Tryd.prog 25 #[.pointer (some ⟨sb, 0, none⟩), .agg #[.string e.k, .int .i64 e.c, .int .i64 e.n, .string e.v, .bool e.d]] w fun r w' => r = .returned (.tuple #[]) ∧ Sto w' sb g tb nd (ckm ck e.c) (insE e Ls) ∧ Keeps (Of sb g tb) w w' ∧ Lanes w' := by
  obtain ⟨T, n, h1, h2⟩ := h
  exact (shold e h1 L h2 hl hk).mono fun r w' ⟨e1, e2, e3⟩ => ⟨e1, ⟨_, _, e2, h2.put e⟩, e3, L.keeps e3 (L.apart h1)⟩
end Go.Proofs.YtlbkcndmljlnmaaDoor
namespace Go.Proofs.YtlbkcndmljlnmaaDoor
open Go.RowKit
set_option linter.unusedVariables false
theorem ldOk_of {nd ck : Int} {T : Nat → En} {len : Nat} (h1 : nodeB nd = true) (h3 : ¬ ck < 0) (h4 : ¬ 1099511627776 < ck) (h5 : ¬ (256 : Int) < (len : Int)) (hc : ckN T len = 0 ∧ ∀ i, i < len → (T i).c ≤ ck) : LdOk nd ck (firstE T len) :=
  ⟨h1, by omega, by omega, by rw [firstE_len]; omega, (ck_map len).1 hc.1, fun e he => by
    unfold firstE at he
    obtain ⟨i, hi, rfl⟩ := List.mem_map.1 he
    exact hc.2 i (List.mem_range.1 hi)⟩
end Go.Proofs.YtlbkcndmljlnmaaDoor
namespace Go.Proofs.YtlbkcndmljlnmaaDoor
open Go.RowKit
set_option linter.unusedVariables false
/-- What Load of the code says. -/
def LdSayC (w : World) (nd ck : Int) (l : List En) (e : Ending) (w' : World) : Prop :=
  (LdOk nd ck l ∧ Lanes w' ∧ ∃ sb g tb, e = .returned (.tuple #[.pointer (some ⟨sb, 0, none⟩), .int .i64 0]) ∧ Sto w' sb g tb nd ck l ∧ w.heap.size ≤ sb ∧ w.heap.size ≤ g ∧ w.heap.size ≤ tb) ∨ (¬ LdOk nd ck l ∧ ∃ c, c ≠ 0 ∧ e = .returned (.tuple #[.pointer none, .int .i64 c]))
set_option maxHeartbeats 6400000 in
set_option maxRecDepth 100000 in
theorem sload_any (nd ck : Int) (a : Option Addr) (len cap : Nat) (T : Nat → En) (w : World) (h : EntsIn w a len cap T) (L : Lanes w) :
    Calls Tryd.prog 9 #[.int .i64 nd, .int .i64 ck, .slice a len cap] w fun e w' => Below w.heap.size w w' ∧ LdSayC w nd ck (firstE T len) e w' := by
  have HE := aside h
  have hcm := h.2.1
  have hlc := h.1
  have L0 := aside L
  have hmx : (len : Int) ≤ 9223372036854775807 := by unfold maxLen at hcm; omega
  clear hlc hcm L h
  by_cases h1 : nd < 0
  · have HB := aside (node_no1 h1)
    go_enter Tryd.func9, Tryd.ntmps9
    go_wp2
    go_ret2
    exact ⟨Below.refl _ _, .inr ⟨fun k => by have := k.nd; first | (rw [HB.out] at this; cases this) | (simp only [firstE_len] at this; omega) | omega, _, by decide, rfl⟩⟩
  by_cases h2 : 8 ≤ nd
  · have HB := aside (node_no2 h2)
    go_enter Tryd.func9, Tryd.ntmps9
    go_wp2
    go_ret2
    exact ⟨Below.refl _ _, .inr ⟨fun k => by have := k.nd; first | (rw [HB.out] at this; cases this) | (simp only [firstE_len] at this; omega) | omega, _, by decide, rfl⟩⟩
  have HN := aside (node_yes h1 h2)
  by_cases h3 : ck < 0
  · have HB := aside h3
    go_enter Tryd.func9, Tryd.ntmps9
    go_wp2
    go_ret2
    exact ⟨Below.refl _ _, .inr ⟨fun k => by have := k.c0; first | (rw [HB.out] at this; cases this) | (simp only [firstE_len] at this; omega) | omega, _, by decide, rfl⟩⟩
  by_cases h4 : 1099511627776 < ck
  · have HB := aside h4
    go_enter Tryd.func9, Tryd.ntmps9
    go_wp2
    go_ret2
    exact ⟨Below.refl _ _, .inr ⟨fun k => by have := k.c1; first | (rw [HB.out] at this; cases this) | (simp only [firstE_len] at this; omega) | omega, _, by decide, rfl⟩⟩
  by_cases h5 : (256 : Int) < (len : Int)
  · have HB := aside h5
    go_enter Tryd.func9, Tryd.ntmps9
    go_wp2
    go_ret2
    exact ⟨Below.refl _ _, .inr ⟨fun k => by have := k.len; first | (rw [HB.out] at this; cases this) | (simp only [firstE_len] at this; omega) | omega, _, by decide, rfl⟩⟩
  have H3 := aside h3
  have H4 := aside h4
  have H5 := aside h5
  have C := aside (sempty nd ck w)
  go_enter Tryd.func9, Tryd.ntmps9
  go_wp2_with fail
  refine C.out.mono ?_
  rintro e w0 ⟨sb, g, tb, rfl, hs, b0, l1, l2, l3⟩
  have HS0 := aside (show Sto w0 sb g tb nd ck (firstE T 0) from ⟨_, _, hs, Hol.nil⟩)
  have B0 := aside b0
  have LL := aside (L0.out.keep b0)
  have HG := aside (show w.heap.size ≤ sb ∧ w.heap.size ≤ g ∧ w.heap.size ≤ tb from ⟨l1, l2, l3⟩)
  clear hs b0 l1 l2 l3 C h1 h2 h3 h4
  go_wp2
  go_loopw [36] (fun i wr => ∃ j : Nat, i = .int .i64 (j : Int) ∧ j ≤ len ∧ Hid (ckN T j = 0 ∧ ∀ i, i < j → (T i).c ≤ ck) ∧ Sto wr sb g tb nd ck (firstE T j) ∧ Lanes wr ∧ Below w.heap.size w wr) (fun i _ => len - (intOf i).toNat)
  case atStart => exact ⟨0, rfl, Nat.zero_le _, ⟨rfl, fun i hi => by omega⟩, HS0.out, LL.out, B0.out⟩
  case round =>
    obtain ⟨j, rfl, hj, HCI, hS, hL, hB⟩ := hrel
    have HB := aside hB
    have HS1 := aside hS
    have HL1 := aside hL
    have HCC2 := aside HCI.out.2
    clear hB hS hL LL B0 HS0
    by_cases hlt : (j : Int) < (len : Int)
    · have hE := HE.out.keep HB.out
      rcases hE.2.2 with h0 | ⟨b, off, rfl, hb, hc⟩
      · omega
      obtain ⟨⟨c0, c1, c2, c3, c4⟩, -⟩ := hc j (by omega)
      obtain ⟨q, hq⟩ : ∃ q, (T j).chk = q := ⟨_, rfl⟩
      have HQ0 := aside hq
      have hj0 : (0 : Int) ≤ (j : Int) := by omega
      have HCC := aside hc
      clear hc hE
      obtain ⟨t, ht⟩ : ∃ t, T j = t := ⟨_, rfl⟩
      have HT := aside ht
      rw [ht] at c0 c1 c2 c3 c4 hq
      have CQ := aside (fun W => chk_of t W hq _ ichk_any)
      have HQ1 := aside hq
      clear ht hq
      by_cases hq0 : q = 0
      · subst hq0
        have HQ := aside (show t.chk = 0 from HQ1.out)
        go_wp2_with fail
        refine (CQ.out _).mono ?_
        rintro e w1 ⟨rfl, b1⟩
        have BNW := aside (bthen (bnew wr (.cells #[.string t.k, .int .i64 t.c, .int .i64 t.n, .string t.v, .bool t.d] 44)) b1)
        have BN := aside (HB.out.trans (BNW.out.mono HB.out.size))
        have KB := aside (blk_on (heap_alloc_new wr (.cells #[.string t.k, .int .i64 t.c, .int .i64 t.n, .string t.v, .bool t.d] 44)) b1)
        obtain ⟨⟨e0, -⟩, -⟩ := box5 KB.out
        have HC2 := aside (fun (i : Nat) (hi : i < len) => cell_in (HCC.out i hi).1.1 BNW.out)
        obtain ⟨bx, hbx⟩ : ∃ bx, wr.heap.size = bx := ⟨_, rfl⟩
        rw [hbx] at KB e0 ⊢
        clear b1 c0 c1 c2 c3 c4 CQ HCC hbx
        cases j with
        | zero =>
          have HCK := aside (show ckN T (0 + 1) = 0 from (ckN_step HCI.out.1).trans (chk_first HQ0.out rfl))
          go_wp2_with fail
          refine wp_region_held_drew (S := fun W => Below w1.heap.size w1 W) (by kernel_rfl) ((Below.refl _ w1).drew) (fun hHeld => ?_)
          refine wpAnyH_take (i := 0) (v := ?_) rfl (by kernel_rfl) (by kernel_rfl) (by kernel_rfl) (fun _ _ _ h => h) (Or.inl ⟨by rfl, ?_⟩) (by assumption) ?_
          rotate_left
          · intro w hSw
            go_simp
            try with_reducible rfl
          simp only [Act.put, List.getElem_toArray, List.getElem_cons_zero, List.setIfInBounds_toArray, List.set_cons_zero, List.set_cons_succ]
          refine wpAnyH_take (i := 1) (v := ?_) rfl (by kernel_rfl) (by kernel_rfl) (by kernel_rfl) (fun _ _ _ h => h) (Or.inl ⟨by rfl, ?_⟩) (by assumption) ?_
          rotate_left
          · intro w hSw
            go_simp
            try with_reducible rfl
          simp only [Act.put, List.getElem_toArray, List.getElem_cons_zero, List.getElem_cons_succ, List.setIfInBounds_toArray, List.set_cons_zero, List.set_cons_succ]
          refine wpAnyH_take (i := 2) (v := ?_) rfl (by kernel_rfl) (by kernel_rfl) (by kernel_rfl) (fun _ _ _ h => h) (Or.inl ⟨by rfl, ?_⟩) (by assumption) ?_
          rotate_left
          · intro w hSw
            go_simp
            try with_reducible rfl
          simp only [Act.put, List.getElem_toArray, List.getElem_cons_zero, List.getElem_cons_succ, List.setIfInBounds_toArray, List.set_cons_zero, List.set_cons_succ]
          refine wpAnyH_take (i := 3) (v := undef) rfl (by kernel_rfl) (by kernel_rfl) (by kernel_rfl) (fun _ _ _ h => h) (Or.inr ⟨by rfl, rfl⟩) (by assumption) ?_
          simp only [Act.put, List.getElem_toArray, List.getElem_cons_zero, List.getElem_cons_succ, List.setIfInBounds_toArray, List.set_cons_zero, List.set_cons_succ]
          refine wpAnyH_take (i := 4) (v := undef) rfl (by kernel_rfl) (by kernel_rfl) (by kernel_rfl) (fun _ _ _ h => h) (Or.inr ⟨by rfl, rfl⟩) (by assumption) ?_
          simp only [Act.put, List.getElem_toArray, List.getElem_cons_zero, List.getElem_cons_succ, List.setIfInBounds_toArray, List.set_cons_zero, List.set_cons_succ]
          refine wpAnyH_take (i := 5) (v := undef) rfl (by kernel_rfl) (by kernel_rfl) (by kernel_rfl) (fun _ _ _ h => h) (Or.inr ⟨by rfl, rfl⟩) (by assumption) ?_
          simp only [Act.put, List.getElem_toArray, List.getElem_cons_zero, List.getElem_cons_succ, List.setIfInBounds_toArray, List.set_cons_zero, List.set_cons_succ]
          refine wpAnyH_take (i := 6) (v := undef) rfl (by kernel_rfl) (by kernel_rfl) (by kernel_rfl) (fun _ _ _ h => h) (Or.inr ⟨by rfl, rfl⟩) (by assumption) ?_
          simp only [Act.put, List.getElem_toArray, List.getElem_cons_zero, List.getElem_cons_succ, List.setIfInBounds_toArray, List.set_cons_zero, List.set_cons_succ]
          refine wpAnyH_take (i := 7) (v := undef) rfl (by kernel_rfl) (by kernel_rfl) (by kernel_rfl) (fun _ _ _ h => h) (Or.inr ⟨by rfl, rfl⟩) (by assumption) ?_
          simp only [Act.put, List.getElem_toArray, List.getElem_cons_zero, List.getElem_cons_succ, List.setIfInBounds_toArray, List.set_cons_zero, List.set_cons_succ]
          refine wpAnyH_take (i := 8) (v := undef) rfl (by kernel_rfl) (by kernel_rfl) (by kernel_rfl) (fun _ _ _ h => h) (Or.inr ⟨by rfl, rfl⟩) (by assumption) ?_
          simp only [Act.put, List.getElem_toArray, List.getElem_cons_zero, List.getElem_cons_succ, List.setIfInBounds_toArray, List.set_cons_zero, List.set_cons_succ]
          refine wpAnyH_take (i := 9) (v := undef) rfl (by kernel_rfl) (by kernel_rfl) (by kernel_rfl) (fun _ _ _ h => h) (Or.inr ⟨by rfl, rfl⟩) (by assumption) ?_
          simp only [Act.put, List.getElem_toArray, List.getElem_cons_zero, List.getElem_cons_succ, List.setIfInBounds_toArray, List.set_cons_zero, List.set_cons_succ]
          refine wpAnyH_take (i := 10) (v := undef) rfl (by kernel_rfl) (by kernel_rfl) (by kernel_rfl) (fun _ _ _ h => h) (Or.inr ⟨by rfl, rfl⟩) (by assumption) ?_
          simp only [Act.put, List.getElem_toArray, List.getElem_cons_zero, List.getElem_cons_succ, List.setIfInBounds_toArray, List.set_cons_zero, List.set_cons_succ]
          refine wpAnyH_take (i := 11) (v := undef) rfl (by kernel_rfl) (by kernel_rfl) (by kernel_rfl) (fun _ _ _ h => h) (Or.inr ⟨by rfl, rfl⟩) (by assumption) ?_
          simp only [Act.put, List.getElem_toArray, List.getElem_cons_zero, List.getElem_cons_succ, List.setIfInBounds_toArray, List.set_cons_zero, List.set_cons_succ]
          refine wpAnyH_take (i := 12) (v := ?_) rfl (by kernel_rfl) (by kernel_rfl) (by kernel_rfl) (fun _ _ _ h => h) (Or.inl ⟨by rfl, ?_⟩) (by assumption) ?_
          rotate_left
          · intro w hSw
            go_simp
            try with_reducible rfl
          simp only [Act.put, List.getElem_toArray, List.getElem_cons_zero, List.getElem_cons_succ, List.setIfInBounds_toArray, List.set_cons_zero, List.set_cons_succ]
          refine wpAnyH_take (i := 13) (v := ?_) rfl (by kernel_rfl) (by kernel_rfl) (by kernel_rfl) (fun _ _ _ h => h) (Or.inl ⟨by rfl, ?_⟩) (by assumption) ?_
          rotate_left
          · intro w hSw
            go_simp
            try with_reducible rfl
          simp only [Act.put, List.getElem_toArray, List.getElem_cons_zero, List.getElem_cons_succ, List.setIfInBounds_toArray, List.set_cons_zero, List.set_cons_succ]
          refine wpAnyH_done (by kernel_rfl) ?_ _
          have B3 := aside hHeld
          clear hHeld e0
          have BN3 := aside (BN.out.trans (B3.out.mono BN.out.size))
          have KX := aside (blk_on KB.out B3.out)
          obtain ⟨⟨y0, y1, y2, y3, y4⟩, -⟩ := box5 KX.out
          by_cases hv : ck < t.c
          · go_wp2
            go_ret2
            exact ⟨BN3.out, .inr ⟨fun k9 => by have := k9.ver _ (first_mem (T := T) (j := 0) (by omega)); rw [HT.out] at this; omega, _, by decide, rfl⟩⟩
          have HV := aside (show t.c ≤ ck from by omega)
          have HS := aside ((HS1.out.below BNW.out).below B3.out)
          have HL := aside ((HL1.out.keep BNW.out).keep B3.out)
          have HMQ := aside ((ck_map (0 + 1)).1 HCK.out)
          have CH := aside (fun W (hW : Sto W sb g tb nd ck (firstE T 0)) (hL : Lanes W) => qhold t hW hL (by rw [firstE_len]; have := H5.out; omega) (key_small HQ.out))
          go_wp2_with fail
          refine (CH.out _ HS.out HL.out).mono ?_
          rintro e9 w9 ⟨rfl, s9, k9, l9⟩
          rw [ckm_low HV.out, ← HT.out, ld_step HMQ.out (by omega)] at s9
          have S9 := aside s9
          have L9 := aside l9
          have B9 := aside (BN3.out.trans (k9.below BN3.out.size (fun k hk => by have := HG.out; unfold Of; omega)))
          clear s9 l9 k9 CH y0 y1 y2 y3 y4
          go_wp2
          go_roundw
          case rel => exact ⟨0 + 1, by go_num, by omega, ⟨HCK.out, fun i hi => by rcases Nat.lt_succ_iff_lt_or_eq.1 hi with h9 | h9; exact HCC2.out i h9; (subst h9; rw [HT.out]; exact HV.out)⟩, S9.out, L9.out, B9.out⟩
          case measure => simp [intOf]; omega
        | succ k =>
          have d0 := HC2.out k (by omega)
          obtain ⟨u, hu⟩ : ∃ u, T k = u := ⟨_, rfl⟩
          have HU := aside hu
          rw [hu] at d0
          clear hu HC2
          have hk0 : (0 : Int) ≤ (k : Int) := by omega
          have hk1 : (k : Int) < (len : Int) := by omega
          have hk2 : (0 : Int) ≤ (k : Int) + 1 := by omega
          have hk3 : (0 : Int) < (k : Int) + 1 := by omega
          have hk4 : (k : Int) + 1 < (len : Int) := by omega
          have hw2 : IntKind.i64.wrap (k : Int) = (k : Int) := by simp only [IntKind.wrap_i64]; omega
          go_wp2_with fail
          refine wp_region_held_drew (S := fun W => Below w1.heap.size w1 W ∧ W.cell? ⟨b, off + k * 5, none⟩ = some (.string u.k) ∧ W.cell? ⟨bx, 0, none⟩ = some (.string t.k)) (by kernel_rfl) ⟨(Below.refl _ w1).drew, d0, e0⟩ (fun hHeld => ?_)
          refine wpAnyH_take (i := 0) (v := ?_) rfl (by kernel_rfl) (by kernel_rfl) (by kernel_rfl) (fun _ _ _ h => h) (Or.inl ⟨by rfl, ?_⟩) (by assumption) ?_
          rotate_left
          · intro w hSw
            go_simp
            try with_reducible rfl
          simp only [Act.put, List.getElem_toArray, List.getElem_cons_zero, List.setIfInBounds_toArray, List.set_cons_zero, List.set_cons_succ]
          refine wpAnyH_take (i := 1) (v := ?_) rfl (by kernel_rfl) (by kernel_rfl) (by kernel_rfl) (fun _ _ _ h => h) (Or.inl ⟨by rfl, ?_⟩) (by assumption) ?_
          rotate_left
          · intro w hSw
            go_simp
            try with_reducible rfl
          simp only [Act.put, List.getElem_toArray, List.getElem_cons_zero, List.getElem_cons_succ, List.setIfInBounds_toArray, List.set_cons_zero, List.set_cons_succ]
          refine wpAnyH_take (i := 2) (v := ?_) rfl (by kernel_rfl) (by kernel_rfl) (by kernel_rfl) (fun _ _ _ h => h) (Or.inl ⟨by rfl, ?_⟩) (by assumption) ?_
          rotate_left
          · intro w hSw
            go_simp
            try with_reducible rfl
          simp only [Act.put, List.getElem_toArray, List.getElem_cons_zero, List.getElem_cons_succ, List.setIfInBounds_toArray, List.set_cons_zero, List.set_cons_succ]
          refine wpAnyH_take (i := 3) (v := ?_) rfl (by kernel_rfl) (by kernel_rfl) (by kernel_rfl) (fun _ _ _ h => h) (Or.inl ⟨by rfl, ?_⟩) (by assumption) ?_
          rotate_left
          · intro w hSw
            go_simp
            try with_reducible rfl
          simp only [Act.put, List.getElem_toArray, List.getElem_cons_zero, List.getElem_cons_succ, List.setIfInBounds_toArray, List.set_cons_zero, List.set_cons_succ]
          refine wpAnyH_take (i := 4) (v := ?_) rfl (by kernel_rfl) (by kernel_rfl) (by kernel_rfl) (fun _ _ _ h => h) (Or.inl ⟨by rfl, ?_⟩) (by assumption) ?_
          rotate_left
          · intro w hSw
            go_simp
            try with_reducible rfl
          simp only [Act.put, List.getElem_toArray, List.getElem_cons_zero, List.getElem_cons_succ, List.setIfInBounds_toArray, List.set_cons_zero, List.set_cons_succ]
          refine wpAnyH_take (i := 5) (v := ?_) rfl (by kernel_rfl) (by kernel_rfl) (by kernel_rfl) (fun _ _ _ h => h) (Or.inl ⟨by rfl, ?_⟩) (by assumption) ?_
          rotate_left
          · intro w hSw
            go_simp
            try with_reducible rfl
          simp only [Act.put, List.getElem_toArray, List.getElem_cons_zero, List.getElem_cons_succ, List.setIfInBounds_toArray, List.set_cons_zero, List.set_cons_succ]
          refine wpAnyH_take (i := 6) (v := ?_) rfl (by kernel_rfl) (by kernel_rfl) (by kernel_rfl) (fun _ _ _ h => h) (Or.inl ⟨by rfl, ?_⟩) (by assumption) ?_
          rotate_left
          · intro w hSw
            go_simp
            try with_reducible rfl
          simp only [Act.put, List.getElem_toArray, List.getElem_cons_zero, List.getElem_cons_succ, List.setIfInBounds_toArray, List.set_cons_zero, List.set_cons_succ]
          refine wpAnyH_take (i := 7) (v := ?_) rfl (by kernel_rfl) (by kernel_rfl) (by kernel_rfl) (fun _ _ _ h => h) (Or.inl ⟨by rfl, ?_⟩) (by assumption) ?_
          rotate_left
          · intro w hSw
            go_simp
            try with_reducible rfl
          simp only [Act.put, List.getElem_toArray, List.getElem_cons_zero, List.getElem_cons_succ, List.setIfInBounds_toArray, List.set_cons_zero, List.set_cons_succ]
          refine wpAnyH_take (i := 8) (v := ?_) rfl (by kernel_rfl) (by kernel_rfl) (by kernel_rfl) (fun _ _ _ h => h) (Or.inl ⟨by rfl, ?_⟩) (by assumption) ?_
          rotate_left
          · intro w hSw
            go_simp
            try with_reducible rfl
          simp only [Act.put, List.getElem_toArray, List.getElem_cons_zero, List.getElem_cons_succ, List.setIfInBounds_toArray, List.set_cons_zero, List.set_cons_succ]
          refine wpAnyH_take (i := 9) (v := ?_) rfl (by kernel_rfl) (by kernel_rfl) (by kernel_rfl) (fun _ _ _ h => h) (Or.inl ⟨by rfl, ?_⟩) (by assumption) ?_
          rotate_left
          · intro w hSw
            go_simp
            try with_reducible rfl
          simp only [Act.put, List.getElem_toArray, List.getElem_cons_zero, List.getElem_cons_succ, List.setIfInBounds_toArray, List.set_cons_zero, List.set_cons_succ]
          refine wpAnyH_take (i := 10) (v := ?_) rfl (by kernel_rfl) (by kernel_rfl) (by kernel_rfl) (fun _ _ _ h => h) (Or.inl ⟨by rfl, ?_⟩) (by assumption) ?_
          rotate_left
          · intro w hSw
            go_simp
            try with_reducible rfl
          simp only [Act.put, List.getElem_toArray, List.getElem_cons_zero, List.getElem_cons_succ, List.setIfInBounds_toArray, List.set_cons_zero, List.set_cons_succ]
          refine wpAnyH_take (i := 11) (v := .bool (!kLt u.k t.k)) rfl (by kernel_rfl) (by kernel_rfl) (by kernel_rfl) (fun _ _ _ h => h) (Or.inl ⟨by rfl, ?_⟩) (by assumption) ?_
          · intro w hSw
            go_simp
            exact leq_eq _ _
          simp only [Act.put, List.getElem_toArray, List.getElem_cons_zero, List.getElem_cons_succ, List.setIfInBounds_toArray, List.set_cons_zero, List.set_cons_succ]
          refine wpAnyH_take (i := 12) (v := ?_) rfl (by kernel_rfl) (by kernel_rfl) (by kernel_rfl) (fun _ _ _ h => h) (Or.inl ⟨by rfl, ?_⟩) (by assumption) ?_
          rotate_left
          · intro w hSw
            go_simp
            try with_reducible rfl
          simp only [Act.put, List.getElem_toArray, List.getElem_cons_zero, List.getElem_cons_succ, List.setIfInBounds_toArray, List.set_cons_zero, List.set_cons_succ]
          refine wpAnyH_take (i := 13) (v := ?_) rfl (by kernel_rfl) (by kernel_rfl) (by kernel_rfl) (fun _ _ _ h => h) (Or.inl ⟨by rfl, ?_⟩) (by assumption) ?_
          rotate_left
          · intro w hSw
            go_simp
            try with_reducible rfl
          simp only [Act.put, List.getElem_toArray, List.getElem_cons_zero, List.getElem_cons_succ, List.setIfInBounds_toArray, List.set_cons_zero, List.set_cons_succ]
          refine wpAnyH_done (by kernel_rfl) ?_ _
          have B3 := aside hHeld.1
          clear hHeld hw2 e0 d0
          have KQ := aside (chk_rising HQ0.out rfl)
          rw [HU.out, HT.out] at KQ
          cases hkk : kLt u.k t.k
          · rw [hkk] at KQ
            have BN3 := aside (BN.out.trans (B3.out.mono BN.out.size))
            go_wp2
            go_ret2
            refine ⟨BN3.out, .inr ⟨fun k9 => ?_, _, by decide, rfl⟩⟩
            have h9 := (ck_map len).2 k9.map
            have := ckN_bad (n := len) HCI.out.1 (by omega) (by rw [KQ.out]; decide)
            rw [KQ.out, h9] at this
            cases this
          · rw [hkk] at KQ
            have HCK := aside (show ckN T (k + 1 + 1) = 0 from (ckN_step HCI.out.1).trans KQ.out)
            clear hkk
            have BN3 := aside (BN.out.trans (B3.out.mono BN.out.size))
            have KX := aside (blk_on KB.out B3.out)
            obtain ⟨⟨y0, y1, y2, y3, y4⟩, -⟩ := box5 KX.out
            by_cases hv : ck < t.c
            · go_wp2
              go_ret2
              exact ⟨BN3.out, .inr ⟨fun k9 => by have := k9.ver _ (first_mem (T := T) (j := (k + 1)) (by omega)); rw [HT.out] at this; omega, _, by decide, rfl⟩⟩
            have HV := aside (show t.c ≤ ck from by omega)
            have HS := aside ((HS1.out.below BNW.out).below B3.out)
            have HL := aside ((HL1.out.keep BNW.out).keep B3.out)
            have HMQ := aside ((ck_map ((k + 1) + 1)).1 HCK.out)
            have CH := aside (fun W (hW : Sto W sb g tb nd ck (firstE T (k + 1))) (hL : Lanes W) => qhold t hW hL (by rw [firstE_len]; have := H5.out; omega) (key_small HQ.out))
            go_wp2_with fail
            refine (CH.out _ HS.out HL.out).mono ?_
            rintro e9 w9 ⟨rfl, s9, k9, l9⟩
            rw [ckm_low HV.out, ← HT.out, ld_step HMQ.out (by omega)] at s9
            have S9 := aside s9
            have L9 := aside l9
            have B9 := aside (BN3.out.trans (k9.below BN3.out.size (fun k hk => by have := HG.out; unfold Of; omega)))
            clear s9 l9 k9 CH y0 y1 y2 y3 y4
            go_wp2
            go_roundw
            case rel => exact ⟨(k + 1) + 1, by go_num, by omega, ⟨HCK.out, fun i hi => by rcases Nat.lt_succ_iff_lt_or_eq.1 hi with h9 | h9; exact HCC2.out i h9; (subst h9; rw [HT.out]; exact HV.out)⟩, S9.out, L9.out, B9.out⟩
            case measure => simp [intOf]; omega
      · have HQN := aside hq0
        go_wp2_with fail
        refine (CQ.out _).mono ?_
        rintro e w1 ⟨rfl, b1⟩
        have B2 := aside (HB.out.trans ((bthen (bnew wr (.cells #[.string t.k, .int .i64 t.c, .int .i64 t.n, .string t.v, .bool t.d] 44)) b1).mono HB.out.size))
        clear b1 CQ c0 c1 c2 c3 c4
        have hqb : (q == 0) = false := by simpa using hq0
        go_wp2
        go_ret2
        exact ⟨B2.out, .inr ⟨fun k9 => HQN.out (by have := k9.map.chk _ (first_mem (T := T) (j := j) (by omega)); rw [HQ0.out] at this; exact this), _, HQN.out, rfl⟩⟩
    · have hjl : j = len := by omega
      subst hjl
      have HOK := aside (ldOk_of HN.out (by have := H3.out; omega) (by have := H4.out; omega) (by have := H5.out; omega) HCI.out)
      go_wp2
      go_ret2
      exact ⟨HB.out, .inl ⟨HOK.out, HL1.out, sb, g, tb, rfl, HS1.out, HG.out⟩⟩
end Go.Proofs.YtlbkcndmljlnmaaDoor

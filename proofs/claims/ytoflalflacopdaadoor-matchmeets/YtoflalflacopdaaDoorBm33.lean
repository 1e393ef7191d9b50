/-
  The code's Load, of what a store can be made of.
  Stores of the laws on match: right, made.
  Max, the code's.
  The document's Max.
  Above, the code's.
-/
import Derived.Test.YtoflalflacopdaaDoorBm15
import Derived.Test.YtoflalflacopdaaDoorBm17
import Derived.Test.YtoflalflacopdaaDoorBm26
import Derived.Test.YtoflalflacopdaaDoorBm29
import Derived.Test.YtoflalflacopdaaDoorBm21
import Derived.Test.YtoflalflacopdaaDoorBm22
import Derived.Test.YtoflalflacopdaaDoorBm18
namespace Go.Proofs.YtoflalflacopdaaDoor
open Go.RowKit
set_option linter.unusedVariables false
set_option maxHeartbeats 3200000 in
set_option maxRecDepth 100000 in
theorem qhold (e : En) {w : World} {sb g tb : Nat} {nd ck : Int} {Ls : List En} (h : Sto w sb g tb nd ck Ls) (L : Lanes w) (hl : Ls.length ≤ 1000000) (hk : e.k.size ≤ 140737488351232) :
    Calls Tryd.prog 36 #[.pointer (some ⟨sb, 0, none⟩), .agg #[.string e.k, .int .i64 e.c, .int .i64 e.n, .string e.v, .bool e.d]] w fun r w' => r = .returned (.tuple #[]) ∧ Sto w' sb g tb nd (ckm ck e.c) (insE e Ls) ∧ Keeps (Of sb g tb) w w' ∧ Lanes w' := by
  obtain ⟨T, n, h1, h2⟩ := h
  exact (shold e h1 L h2 hl hk).mono fun r w' ⟨e1, e2, e3⟩ => ⟨e1, ⟨_, _, e2, h2.put e⟩, e3, L.keeps e3 (L.apart h1)⟩
set_option maxHeartbeats 3200000 in
set_option maxRecDepth 100000 in
theorem sload (nd ck : Int) (a : Option Addr) (len cap : Nat) (T : Nat → En) (w : World) (h : EntsIn w a len cap T) (L : Lanes w) (hO : LdOk nd ck (firstE T len)) :
    Calls Tryd.prog 31 #[.int .i64 nd, .int .i64 ck, .slice a len cap] w fun e w' => Below w.heap.size w w' ∧ Lanes w' ∧ ∃ sb g tb, e = .returned (.tuple #[.pointer (some ⟨sb, 0, none⟩), .int .i64 0]) ∧ Sto w' sb g tb nd ck (firstE T len) ∧ w.heap.size ≤ sb ∧ w.heap.size ≤ g ∧ w.heap.size ≤ tb := by
  have HE := aside h
  have HO := aside hO
  have L0 := aside L
  clear L h
  have hnd : 0 ≤ nd ∧ nd < 8 := by have := hO.nd; simpa [nodeB] using this
  obtain ⟨hn1, hn2⟩ := hnd
  have h1 : ¬ nd < 0 := by omega
  have h2 : ¬ 8 ≤ nd := by omega
  have h3 : ¬ ck < 0 := by have := hO.c0; omega
  have h4 : ¬ 1099511627776 < ck := by have := hO.c1; omega
  have h5 : ¬ (256 : Int) < (len : Int) := by have := hO.len; rw [firstE_len] at this; omega
  have hmx : (len : Int) ≤ 9223372036854775807 := by omega
  clear hO hn1 hn2
  have C := aside (sempty nd ck w)
  go_enter Tryd.func31, Tryd.ntmps31
  go_wp2_with fail
  refine C.out.mono ?_
  rintro e w0 ⟨sb, g, tb, rfl, hs, b0, l1, l2, l3⟩
  have HS0 := aside (show Sto w0 sb g tb nd ck (firstE T 0) from ⟨_, _, hs, Hol.nil⟩)
  have B0 := aside b0
  have LL := aside (L0.out.keep b0)
  have HG := aside (show w.heap.size ≤ sb ∧ w.heap.size ≤ g ∧ w.heap.size ≤ tb from ⟨l1, l2, l3⟩)
  clear hs b0 l1 l2 l3 C h1 h2 h3 h4
  go_wp2
  go_loopw [36] (fun i wr => ∃ j : Nat, i = .int .i64 (j : Int) ∧ j ≤ len ∧ Sto wr sb g tb nd ck (firstE T j) ∧ Lanes wr ∧ Below w.heap.size w wr) (fun i _ => len - (intOf i).toNat)
  case atStart => exact ⟨0, rfl, Nat.zero_le _, HS0.out, LL.out, B0.out⟩
  case round =>
    obtain ⟨j, rfl, hj, hS, hL, hB⟩ := hrel
    have HB := aside hB
    have HS1 := aside hS
    have HL1 := aside hL
    clear hB hS hL LL B0 HS0
    by_cases hlt : (j : Int) < (len : Int)
    · have hE := HE.out.keep HB.out
      rcases hE.2.2 with h0 | ⟨b, off, rfl, hb, hc⟩
      · omega
      obtain ⟨⟨c0, c1, c2, c3, c4⟩, -⟩ := hc j (by omega)
      have hq : (T j).chk = 0 := HO.out.map.chk _ (first_mem (by omega))
      have HQ := aside hq
      have hver : (T j).c ≤ ck := HO.out.ver _ (first_mem (by omega))
      have HV := aside hver
      have hj0 : (0 : Int) ≤ (j : Int) := by omega
      have HCC := aside hc
      clear hc hE hver
      obtain ⟨t, ht⟩ : ∃ t, T j = t := ⟨_, rfl⟩
      have HT := aside ht
      rw [ht] at c0 c1 c2 c3 c4 hq HQ HV
      have CQ := aside (fun W => chk_of t W hq _ ichk_any)
      clear ht hq
      go_wp2_with fail
      refine (CQ.out _).mono ?_
      rintro e w1 ⟨rfl, b1⟩
      have BN := bthen (bnew wr (.cells #[.string t.k, .int .i64 t.c, .int .i64 t.n, .string t.v, .bool t.d] 33)) b1
      have B2 := aside (HB.out.trans (BN.mono HB.out.size))
      have HS := aside (HS1.out.below BN)
      have HL := aside (HL1.out.keep BN)
      have KB := aside (blk_on (heap_alloc_new wr (.cells #[.string t.k, .int .i64 t.c, .int .i64 t.n, .string t.v, .bool t.d] 33)) b1)
      obtain ⟨⟨e0, -⟩, -⟩ := box5 KB.out
      have HC2 := aside (fun (i : Nat) (hi : i < len) => cell_in (HCC.out i hi).1.1 BN)
      generalize wr.heap.size = bx at *
      clear b1 c0 c1 c2 c3 c4 CQ HCC BN HS1 HL1
      cases j with
      | zero =>
        go_wp2_with fail
        refine wp_region_held_drew (S := fun W => Below w1.heap.size w1 W) (by kernel_rfl) ((Below.refl _ w1).drew) (fun hHeld => ?_)
        refine wpAnyH_take (i := 0) (v := ?_) rfl (by kernel_rfl) (by kernel_rfl) (by kernel_rfl) (fun _ _ _ h => h) (Or.inl ⟨by rfl, ?_⟩) (by assumption) ?_
        rotate_left
        · intro w hSw
          go_simp
          try with_reducible rfl
        simp only [Act.put, List.getElem_toArray, List.getElem_cons_zero, List.setIfInBounds_toArray, List.set_cons_zero, List.set_cons_succ]
        refine wpAnyH_take (i := 1) (v := ?_) rfl (by kernel_rfl) (by kernel_rfl) (by kernel_rfl) (fun _ _ _ h => h) (Or.inl ⟨by rfl, ?_⟩) (by assumption) ?_
        rotate_left
        · intro w hSw
          go_simp
          try with_reducible rfl
        simp only [Act.put, List.getElem_toArray, List.getElem_cons_zero, List.getElem_cons_succ, List.setIfInBounds_toArray, List.set_cons_zero, List.set_cons_succ]
        refine wpAnyH_take (i := 2) (v := ?_) rfl (by kernel_rfl) (by kernel_rfl) (by kernel_rfl) (fun _ _ _ h => h) (Or.inl ⟨by rfl, ?_⟩) (by assumption) ?_
        rotate_left
        · intro w hSw
          go_simp
          try with_reducible rfl
        simp only [Act.put, List.getElem_toArray, List.getElem_cons_zero, List.getElem_cons_succ, List.setIfInBounds_toArray, List.set_cons_zero, List.set_cons_succ]
        refine wpAnyH_take (i := 3) (v := undef) rfl (by kernel_rfl) (by kernel_rfl) (by kernel_rfl) (fun _ _ _ h => h) (Or.inr ⟨by rfl, rfl⟩) (by assumption) ?_
        simp only [Act.put, List.getElem_toArray, List.getElem_cons_zero, List.getElem_cons_succ, List.setIfInBounds_toArray, List.set_cons_zero, List.set_cons_succ]
        refine wpAnyH_take (i := 4) (v := undef) rfl (by kernel_rfl) (by kernel_rfl) (by kernel_rfl) (fun _ _ _ h => h) (Or.inr ⟨by rfl, rfl⟩) (by assumption) ?_
        simp only [Act.put, List.getElem_toArray, List.getElem_cons_zero, List.getElem_cons_succ, List.setIfInBounds_toArray, List.set_cons_zero, List.set_cons_succ]
        refine wpAnyH_take (i := 5) (v := undef) rfl (by kernel_rfl) (by kernel_rfl) (by kernel_rfl) (fun _ _ _ h => h) (Or.inr ⟨by rfl, rfl⟩) (by assumption) ?_
        simp only [Act.put, List.getElem_toArray, List.getElem_cons_zero, List.getElem_cons_succ, List.setIfInBounds_toArray, List.set_cons_zero, List.set_cons_succ]
        refine wpAnyH_take (i := 6) (v := undef) rfl (by kernel_rfl) (by kernel_rfl) (by kernel_rfl) (fun _ _ _ h => h) (Or.inr ⟨by rfl, rfl⟩) (by assumption) ?_
        simp only [Act.put, List.getElem_toArray, List.getElem_cons_zero, List.getElem_cons_succ, List.setIfInBounds_toArray, List.set_cons_zero, List.set_cons_succ]
        refine wpAnyH_take (i := 7) (v := undef) rfl (by kernel_rfl) (by kernel_rfl) (by kernel_rfl) (fun _ _ _ h => h) (Or.inr ⟨by rfl, rfl⟩) (by assumption) ?_
        simp only [Act.put, List.getElem_toArray, List.getElem_cons_zero, List.getElem_cons_succ, List.setIfInBounds_toArray, List.set_cons_zero, List.set_cons_succ]
        refine wpAnyH_take (i := 8) (v := undef) rfl (by kernel_rfl) (by kernel_rfl) (by kernel_rfl) (fun _ _ _ h => h) (Or.inr ⟨by rfl, rfl⟩) (by assumption) ?_
        simp only [Act.put, List.getElem_toArray, List.getElem_cons_zero, List.getElem_cons_succ, List.setIfInBounds_toArray, List.set_cons_zero, List.set_cons_succ]
        refine wpAnyH_take (i := 9) (v := undef) rfl (by kernel_rfl) (by kernel_rfl) (by kernel_rfl) (fun _ _ _ h => h) (Or.inr ⟨by rfl, rfl⟩) (by assumption) ?_
        simp only [Act.put, List.getElem_toArray, List.getElem_cons_zero, List.getElem_cons_succ, List.setIfInBounds_toArray, List.set_cons_zero, List.set_cons_succ]
        refine wpAnyH_take (i := 10) (v := undef) rfl (by kernel_rfl) (by kernel_rfl) (by kernel_rfl) (fun _ _ _ h => h) (Or.inr ⟨by rfl, rfl⟩) (by assumption) ?_
        simp only [Act.put, List.getElem_toArray, List.getElem_cons_zero, List.getElem_cons_succ, List.setIfInBounds_toArray, List.set_cons_zero, List.set_cons_succ]
        refine wpAnyH_take (i := 11) (v := undef) rfl (by kernel_rfl) (by kernel_rfl) (by kernel_rfl) (fun _ _ _ h => h) (Or.inr ⟨by rfl, rfl⟩) (by assumption) ?_
        simp only [Act.put, List.getElem_toArray, List.getElem_cons_zero, List.getElem_cons_succ, List.setIfInBounds_toArray, List.set_cons_zero, List.set_cons_succ]
        refine wpAnyH_take (i := 12) (v := ?_) rfl (by kernel_rfl) (by kernel_rfl) (by kernel_rfl) (fun _ _ _ h => h) (Or.inl ⟨by rfl, ?_⟩) (by assumption) ?_
        rotate_left
        · intro w hSw
          go_simp
          try with_reducible rfl
        simp only [Act.put, List.getElem_toArray, List.getElem_cons_zero, List.getElem_cons_succ, List.setIfInBounds_toArray, List.set_cons_zero, List.set_cons_succ]
        refine wpAnyH_take (i := 13) (v := ?_) rfl (by kernel_rfl) (by kernel_rfl) (by kernel_rfl) (fun _ _ _ h => h) (Or.inl ⟨by rfl, ?_⟩) (by assumption) ?_
        rotate_left
        · intro w hSw
          go_simp
          try with_reducible rfl
        simp only [Act.put, List.getElem_toArray, List.getElem_cons_zero, List.getElem_cons_succ, List.setIfInBounds_toArray, List.set_cons_zero, List.set_cons_succ]
        refine wpAnyH_done (by kernel_rfl) ?_ _
        have B3 := aside hHeld
        clear hHeld e0
        have KX := aside (blk_on KB.out B3.out)
        obtain ⟨⟨y0, y1, y2, y3, y4⟩, -⟩ := box5 KX.out
        have hv : ¬ ck < t.c := by have := HV.out; omega
        have hS9 := HS.out.below B3.out
        have CH := aside (fun W (hW : Sto W sb g tb nd ck (firstE T 0)) (hL : Lanes W) => qhold t hW hL (by rw [firstE_len]; have := HO.out.len; rw [firstE_len] at this; omega) (key_small HQ.out))
        go_wp2_with fail
        refine (CH.out _ hS9 (HL.out.keep B3.out)).mono ?_
        rintro e9 w9 ⟨rfl, s9, k9, l9⟩
        rw [ckm_low HV.out, ← HT.out, ld_step HO.out.map (by omega)] at s9
        have S9 := aside s9
        have L9 := aside l9
        have B9 := aside (B2.out.trans ((B3.out.mono B2.out.size).trans (k9.below (by have := B2.out.size; have := B3.out.size; omega) (fun k hk => by have := HG.out; unfold Of; omega))))
        clear s9 l9 k9 CH y0 y1 y2 y3 y4 hS9
        go_wp2
        go_roundw
        case rel => exact ⟨0 + 1, by go_num, by omega, S9.out, L9.out, B9.out⟩
        case measure => simp [intOf]; omega
      | succ k =>
        have d0 := HC2.out k (by omega)
        have hris : kLt (T k).k (T (k + 1)).k = true := by
          have h9 := (mapL_sub HO.out.map (first_sub T (show k + 2 ≤ len by omega))).rises
          rw [firstE_succ, rises_snoc] at h9
          exact h9.2 _ (first_mem (by omega))
        rw [HT.out] at hris
        obtain ⟨u, hu⟩ : ∃ u, T k = u := ⟨_, rfl⟩
        rw [hu] at d0 hris
        have HR := aside hris
        clear hu HC2 hris
        have hk0 : (0 : Int) ≤ (k : Int) := by omega
        have hk1 : (k : Int) < (len : Int) := by omega
        have hk2 : (0 : Int) ≤ (k : Int) + 1 := by omega
        have hk3 : (0 : Int) < (k : Int) + 1 := by omega
        have hk4 : (k : Int) + 1 < (len : Int) := by omega
        have hw2 : IntKind.i64.wrap (k : Int) = (k : Int) := by simp only [IntKind.wrap_i64]; omega
        go_wp2_with fail
        refine wp_region_held_drew (S := fun W => Below w1.heap.size w1 W ∧ W.cell? ⟨b, off + k * 5, none⟩ = some (.string u.k) ∧ W.cell? ⟨bx, 0, none⟩ = some (.string t.k)) (by kernel_rfl) ⟨(Below.refl _ w1).drew, d0, e0⟩ (fun hHeld => ?_)
        refine wpAnyH_take (i := 0) (v := ?_) rfl (by kernel_rfl) (by kernel_rfl) (by kernel_rfl) (fun _ _ _ h => h) (Or.inl ⟨by rfl, ?_⟩) (by assumption) ?_
        rotate_left
        · intro w hSw
          go_simp
          try with_reducible rfl
        simp only [Act.put, List.getElem_toArray, List.getElem_cons_zero, List.setIfInBounds_toArray, List.set_cons_zero, List.set_cons_succ]
        refine wpAnyH_take (i := 1) (v := ?_) rfl (by kernel_rfl) (by kernel_rfl) (by kernel_rfl) (fun _ _ _ h => h) (Or.inl ⟨by rfl, ?_⟩) (by assumption) ?_
        rotate_left
        · intro w hSw
          go_simp
          try with_reducible rfl
        simp only [Act.put, List.getElem_toArray, List.getElem_cons_zero, List.getElem_cons_succ, List.setIfInBounds_toArray, List.set_cons_zero, List.set_cons_succ]
        refine wpAnyH_take (i := 2) (v := ?_) rfl (by kernel_rfl) (by kernel_rfl) (by kernel_rfl) (fun _ _ _ h => h) (Or.inl ⟨by rfl, ?_⟩) (by assumption) ?_
        rotate_left
        · intro w hSw
          go_simp
          try with_reducible rfl
        simp only [Act.put, List.getElem_toArray, List.getElem_cons_zero, List.getElem_cons_succ, List.setIfInBounds_toArray, List.set_cons_zero, List.set_cons_succ]
        refine wpAnyH_take (i := 3) (v := ?_) rfl (by kernel_rfl) (by kernel_rfl) (by kernel_rfl) (fun _ _ _ h => h) (Or.inl ⟨by rfl, ?_⟩) (by assumption) ?_
        rotate_left
        · intro w hSw
          go_simp
          try with_reducible rfl
        simp only [Act.put, List.getElem_toArray, List.getElem_cons_zero, List.getElem_cons_succ, List.setIfInBounds_toArray, List.set_cons_zero, List.set_cons_succ]
        refine wpAnyH_take (i := 4) (v := ?_) rfl (by kernel_rfl) (by kernel_rfl) (by kernel_rfl) (fun _ _ _ h => h) (Or.inl ⟨by rfl, ?_⟩) (by assumption) ?_
        rotate_left
        · intro w hSw
          go_simp
          try with_reducible rfl
        simp only [Act.put, List.getElem_toArray, List.getElem_cons_zero, List.getElem_cons_succ, List.setIfInBounds_toArray, List.set_cons_zero, List.set_cons_succ]
        refine wpAnyH_take (i := 5) (v := ?_) rfl (by kernel_rfl) (by kernel_rfl) (by kernel_rfl) (fun _ _ _ h => h) (Or.inl ⟨by rfl, ?_⟩) (by assumption) ?_
        rotate_left
        · intro w hSw
          go_simp
          try with_reducible rfl
        simp only [Act.put, List.getElem_toArray, List.getElem_cons_zero, List.getElem_cons_succ, List.setIfInBounds_toArray, List.set_cons_zero, List.set_cons_succ]
        refine wpAnyH_take (i := 6) (v := ?_) rfl (by kernel_rfl) (by kernel_rfl) (by kernel_rfl) (fun _ _ _ h => h) (Or.inl ⟨by rfl, ?_⟩) (by assumption) ?_
        rotate_left
        · intro w hSw
          go_simp
          try with_reducible rfl
        simp only [Act.put, List.getElem_toArray, List.getElem_cons_zero, List.getElem_cons_succ, List.setIfInBounds_toArray, List.set_cons_zero, List.set_cons_succ]
        refine wpAnyH_take (i := 7) (v := ?_) rfl (by kernel_rfl) (by kernel_rfl) (by kernel_rfl) (fun _ _ _ h => h) (Or.inl ⟨by rfl, ?_⟩) (by assumption) ?_
        rotate_left
        · intro w hSw
          go_simp
          try with_reducible rfl
        simp only [Act.put, List.getElem_toArray, List.getElem_cons_zero, List.getElem_cons_succ, List.setIfInBounds_toArray, List.set_cons_zero, List.set_cons_succ]
        refine wpAnyH_take (i := 8) (v := ?_) rfl (by kernel_rfl) (by kernel_rfl) (by kernel_rfl) (fun _ _ _ h => h) (Or.inl ⟨by rfl, ?_⟩) (by assumption) ?_
        rotate_left
        · intro w hSw
          go_simp
          try with_reducible rfl
        simp only [Act.put, List.getElem_toArray, List.getElem_cons_zero, List.getElem_cons_succ, List.setIfInBounds_toArray, List.set_cons_zero, List.set_cons_succ]
        refine wpAnyH_take (i := 9) (v := ?_) rfl (by kernel_rfl) (by kernel_rfl) (by kernel_rfl) (fun _ _ _ h => h) (Or.inl ⟨by rfl, ?_⟩) (by assumption) ?_
        rotate_left
        · intro w hSw
          go_simp
          try with_reducible rfl
        simp only [Act.put, List.getElem_toArray, List.getElem_cons_zero, List.getElem_cons_succ, List.setIfInBounds_toArray, List.set_cons_zero, List.set_cons_succ]
        refine wpAnyH_take (i := 10) (v := ?_) rfl (by kernel_rfl) (by kernel_rfl) (by kernel_rfl) (fun _ _ _ h => h) (Or.inl ⟨by rfl, ?_⟩) (by assumption) ?_
        rotate_left
        · intro w hSw
          go_simp
          try with_reducible rfl
        simp only [Act.put, List.getElem_toArray, List.getElem_cons_zero, List.getElem_cons_succ, List.setIfInBounds_toArray, List.set_cons_zero, List.set_cons_succ]
        refine wpAnyH_take (i := 11) (v := .bool (!kLt u.k t.k)) rfl (by kernel_rfl) (by kernel_rfl) (by kernel_rfl) (fun _ _ _ h => h) (Or.inl ⟨by rfl, ?_⟩) (by assumption) ?_
        · intro w hSw
          go_simp
          exact leq_eq _ _
        simp only [Act.put, List.getElem_toArray, List.getElem_cons_zero, List.getElem_cons_succ, List.setIfInBounds_toArray, List.set_cons_zero, List.set_cons_succ]
        refine wpAnyH_take (i := 12) (v := ?_) rfl (by kernel_rfl) (by kernel_rfl) (by kernel_rfl) (fun _ _ _ h => h) (Or.inl ⟨by rfl, ?_⟩) (by assumption) ?_
        rotate_left
        · intro w hSw
          go_simp
          try with_reducible rfl
        simp only [Act.put, List.getElem_toArray, List.getElem_cons_zero, List.getElem_cons_succ, List.setIfInBounds_toArray, List.set_cons_zero, List.set_cons_succ]
        refine wpAnyH_take (i := 13) (v := ?_) rfl (by kernel_rfl) (by kernel_rfl) (by kernel_rfl) (fun _ _ _ h => h) (Or.inl ⟨by rfl, ?_⟩) (by assumption) ?_
        rotate_left
        · intro w hSw
          go_simp
          try with_reducible rfl
        simp only [Act.put, List.getElem_toArray, List.getElem_cons_zero, List.getElem_cons_succ, List.setIfInBounds_toArray, List.set_cons_zero, List.set_cons_succ]
        refine wpAnyH_done (by kernel_rfl) ?_ _
        have B3 := aside hHeld.1
        clear hHeld hw2 e0 d0
        cases hkk : kLt u.k t.k
        · rw [HR.out] at hkk
          cases hkk
        · clear hkk
          have KX := aside (blk_on KB.out B3.out)
          obtain ⟨⟨y0, y1, y2, y3, y4⟩, -⟩ := box5 KX.out
          have hv : ¬ ck < t.c := by have := HV.out; omega
          have hS9 := HS.out.below B3.out
          have CH := aside (fun W (hW : Sto W sb g tb nd ck (firstE T (k + 1))) (hL : Lanes W) => qhold t hW hL (by rw [firstE_len]; have := HO.out.len; rw [firstE_len] at this; omega) (key_small HQ.out))
          go_wp2_with fail
          refine (CH.out _ hS9 (HL.out.keep B3.out)).mono ?_
          rintro e9 w9 ⟨rfl, s9, k9, l9⟩
          rw [ckm_low HV.out, ← HT.out, ld_step HO.out.map (by omega)] at s9
          have S9 := aside s9
          have L9 := aside l9
          have B9 := aside (B2.out.trans ((B3.out.mono B2.out.size).trans (k9.below (by have := B2.out.size; have := B3.out.size; omega) (fun k hk => by have := HG.out; unfold Of; omega))))
          clear s9 l9 k9 CH y0 y1 y2 y3 y4 hS9
          go_wp2
          go_roundw
          case rel => exact ⟨(k + 1) + 1, by go_num, by omega, S9.out, L9.out, B9.out⟩
          case measure => simp [intOf]; omega
    · have hjl : j = len := by omega
      subst hjl
      go_wp2
      go_ret2
      refine ⟨HB.out, HL1.out, ?_⟩
      exact ⟨sb, rfl, g, tb, HS1.out, HG.out⟩
end Go.Proofs.YtoflalflacopdaaDoor
namespace Go.Proofs.YtoflalflacopdaaDoor
open Go.RowKit
set_option linter.unusedVariables false
theorem two_cells {w : World} {i : Nat} {a b : Value} {T : TypeId} (h : w.heap[i]? = some (.cells #[a, b] T (0, 0))) : w.cell? ⟨i, 0, none⟩ = some a ∧ w.cell? ⟨i, 1, none⟩ = some b := ⟨by simp [World.cell?, h], by simp [World.cell?, h]⟩
theorem Lanes.apart0 {w : World} (L : Lanes w) : ∀ (cs : Array Value) (T : TypeId), w.heap[0]? = some (.cells cs T (0, 0)) → cs.size = 2 → False := fun cs T h hs => by
  have h5 := L.c5
  simp only [World.cell?, h] at h5
  have : cs[5]? = none := by rw [Array.getElem?_eq_none_iff]; omega
  simp [this] at h5
/-- What right says. -/
def RtSay (w : World) (nd : Int) (l : List En) (e : Ending) (w' : World) : Prop := ∃ q, e = .returned (.bool q) ∧ (q = true ↔ LdOk nd 1099511627776 l) ∧ Below w.heap.size w w'
set_option maxHeartbeats 3200000 in
set_option maxRecDepth 100000 in
theorem right13_any (nd : Int) (a : Option Addr) (len cap : Nat) (T : Nat → En) (w : World) (h : EntsIn w a len cap T) (hform : (a = none ∧ len = 0 ∧ cap = 0) ∨ ∃ y, a = some y) : Calls Tryd.prog 17 #[.int .i64 nd, .slice a len cap] w fun e w' => RtSay w nd (firstE T len) e w' := by
  have C := aside (rload nd 1099511627776 a len cap T w h hform)
  clear h hform
  go_enter Tryd.func17, Tryd.ntmps17
  go_wp2_with fail
  refine C.out.mono ?_
  rintro e w1 ⟨b1, ⟨hO, db, rfl, -, -⟩ | ⟨hN, c, hc, rfl⟩⟩
  · have HO := aside hO
    have B1 := aside b1
    clear b1 hO C
    go_wp2
    go_ret
    exact ⟨true, rfl, ⟨fun _ => HO.out, fun _ => rfl⟩, B1.out⟩
  · have HN := aside hN
    have B1 := aside b1
    have hcb : (c == 0) = false := by simpa using hc
    clear b1 hN C
    go_wp2
    go_ret
    exact ⟨false, rfl, ⟨fun e => (by cases e), fun e => absurd e HN.out⟩, B1.out⟩
theorem DSt.set {w : World} {B db : Nat} {nd ck : Int} {l : List En} (h : DSt w B db nd ck l) {b : Nat} (hb : b < B) (hd : B ≤ db) (k : Nat) (u : Value) : DSt (w.setCell ⟨b, k, none⟩ u) B db nd ck l := by
  obtain ⟨v, h1, h2⟩ := h
  exact ⟨v, by rw [heap_setCell_other _ _ _ _ (by simp; omega)]; exact h1, own_set h2 hb k u⟩
/-- A store of the code's and the document's beside it. -/
structure Pair2 (w : World) (B sb g tb db : Nat) (nd ck : Int) (l : List En) : Prop where
  code : Sto w sb g tb nd ck l
  doc : DSt w B db nd ck l
  lanes : Lanes w
  s : B ≤ sb
  g : B ≤ g
  t : B ≤ tb
  d : B ≤ db
theorem Pair2.below {w w' : World} {B sb g tb db : Nat} {nd ck : Int} {l : List En} (h : Pair2 w B sb g tb db nd ck l) (b : Below w.heap.size w w') : Pair2 w' B sb g tb db nd ck l :=
  ⟨h.code.below b, h.doc.below b, h.lanes.keep b, h.s, h.g, h.t, h.d⟩
/-- What made says. -/
def MkSay (w : World) (nd : Int) (l : List En) (e : Ending) (w' : World) : Prop := ∃ sb g tb db, e = .returned (.tuple #[.agg #[.pointer (some ⟨sb, 0, none⟩), .pointer (some ⟨db, 0, none⟩)], .bool true]) ∧ Pair2 w' (w.heap.size + 1) sb g tb db nd 1099511627776 l ∧ Below w.heap.size w w'
set_option maxHeartbeats 3200000 in
set_option maxRecDepth 100000 in
theorem made13_any (nd : Int) (a : Option Addr) (len cap : Nat) (T : Nat → En) (w : World) (h : EntsIn w a len cap T) (hform : (a = none ∧ len = 0 ∧ cap = 0) ∨ ∃ y, a = some y) (L : Lanes w) (hO : LdOk nd 1099511627776 (firstE T len)) : Calls Tryd.prog 18 #[.int .i64 nd, .slice a len cap] w fun e w' => MkSay w nd (firstE T len) e w' := by
  have BZ := aside (bnew w (.cells #[.pointer none, .pointer none] 63))
  have KZ := aside (heap_alloc_new w (.cells #[.pointer none, .pointer none] 63))
  have C1 := aside (rload nd 1099511627776 a len cap T _ (h.keep BZ.out) hform)
  have C2 := aside (fun W (b : Below w.heap.size w W) => sload nd 1099511627776 a len cap T W (h.keep b) (L.keep b) hO)
  have HO := aside hO
  clear h hform L hO
  go_enter Tryd.func18, Tryd.ntmps18
  go_wp2_with fail
  refine C1.out.mono ?_
  rintro e w1 ⟨b1, ⟨-, db, rfl, hd, ds⟩ | ⟨hN, c, hc, rfl⟩⟩
  rotate_left
  · exact absurd HO.out hN
  have B1 := aside (bthen BZ.out b1)
  have K1 := aside (blk_on KZ.out b1)
  have D1 := aside ds
  have HD := aside (show w.heap.size + 1 ≤ db from by simpa using hd)
  clear b1 ds hd KZ BZ C1
  go_wp2_with fail
  refine (C2.out _ B1.out).mono ?_
  rintro e w2 ⟨b2, l2, sb, g, tb, rfl, s2, h1, h2, h3⟩
  have K2 := aside (blk_on K1.out b2)
  have HG := aside (show w1.heap.size ≤ sb ∧ w1.heap.size ≤ g ∧ w1.heap.size ≤ tb from ⟨h1, h2, h3⟩)
  have Z1 := aside (show w.heap.size + 1 ≤ w1.heap.size from lt_of_blk K1.out)
  have B2 := aside (bthen B1.out b2)
  have D2 := aside (D1.out.below b2)
  rw [World.size_alloc] at D2
  have S2 := aside s2
  have L2 := aside l2
  clear b2 s2 l2 h1 h2 h3 K1 D1 B1 C2
  obtain ⟨pb, hpb⟩ : ∃ pb, w.heap.size = pb := ⟨_, rfl⟩
  rw [hpb] at K2 D2 HD Z1 ⊢
  have z0 := (two_cells K2.out).1
  have z1 := (two_cells K2.out).2
  have y0 := frozen_of_row _ _ 0 _ _ K2.out
  have y1 := frozen_of_row _ _ 1 _ _ K2.out
  have KR := set_in 1 (.pointer (some ⟨db, 0, none⟩)) (set_in 0 (.pointer (some ⟨sb, 0, none⟩)) K2.out)
  simp only [List.setIfInBounds_toArray, List.set_cons_zero, List.set_cons_succ] at KR
  have HKR := aside KR
  have KF := aside (((Keeps.refl (fun x => x = pb) w2).setCell (p := ⟨pb, 0, none⟩) (fun _ => rfl) (.pointer (some ⟨sb, 0, none⟩))).setCell (p := ⟨pb, 1, none⟩) (fun _ => rfl) (.pointer (some ⟨db, 0, none⟩)))
  have SF := aside (S2.out.set K2.out (by decide) (by decide) (by decide) (by decide) KF.out)
  have LF := aside (L2.out.keeps KF.out (fun e => by have h9 := L2.out.apart0; have h8 := K2.out; subst e; exact h9 _ _ h8 rfl))
  have DF := aside ((D2.out.set (b := pb) (by omega) HD.out 0 (.pointer (some ⟨sb, 0, none⟩))).set (b := pb) (by omega) HD.out 1 (.pointer (some ⟨db, 0, none⟩)))
  have BF := aside ((B2.out.setCell (p := ⟨pb, 0, none⟩) (by simp; omega) (.pointer (some ⟨sb, 0, none⟩))).setCell (p := ⟨pb, 1, none⟩) (by simp; omega) (.pointer (some ⟨db, 0, none⟩)))
  clear KR KF D2 S2 L2 B2
  go_wp2
  obtain ⟨r0, r1⟩ := two_cells HKR.out
  exact bodyPost_ret (v := .tuple #[.agg #[.pointer (some ⟨sb, 0, none⟩), .pointer (some ⟨db, 0, none⟩)], .bool true]) (by simp [results, Tryd.results18, go_sem, r0, r1]) rfl ⟨sb, g, tb, db, rfl, ⟨SF.out, by rw [hpb]; exact DF.out, LF.out, by have h1 := HG.out; have h2 := Z1.out; omega, by have h1 := HG.out; have h2 := Z1.out; omega, by have h1 := HG.out; have h2 := Z1.out; omega, by have h1 := HD.out; omega⟩, BF.out⟩
end Go.Proofs.YtoflalflacopdaaDoor
namespace Go.Proofs.YtoflalflacopdaaDoor
open Go.RowKit Go.Shelf
set_option linter.unusedVariables false
attribute [local go_sem] Oper.semAt_some
/-- The newer ones, of the pairs so far. -/
def mxP (l : List (En × En)) : List En := l.map (fun p => En.best p.1 p.2)
theorem mxP_len (l : List (En × En)) : (mxP l).length ≤ l.length := by unfold mxP; rw [List.length_map]; exact Nat.le_refl _
end Go.Proofs.YtoflalflacopdaaDoor
namespace Go.Proofs.YtoflalflacopdaaDoor
open Go.RowKit
set_option linter.unusedVariables false
/-- What a pair of two maps is: two of one key, or one alone. -/
theorem pr_two {a b : List En} (ha : MapL a) (hb : MapL b) {p : En × En} (h : p ∈ prs a b) : (1 ≤ p.1.c ∧ 1 ≤ p.2.c ∧ 0 ≤ p.1.n ∧ 0 ≤ p.2.n ∧ p.1.k = p.2.k) ∨ (1 ≤ p.1.c ∧ 0 ≤ p.1.n ∧ p.2 = eZ) ∨ (p.1 = eZ ∧ 1 ≤ p.2.c ∧ 0 ≤ p.2.n) := by
  rcases (mem_prs a b ha.rises hb.rises p).1 h with ⟨h1, h2, h3⟩ | ⟨h1, h2, h3⟩ | ⟨h1, h2, h3⟩
  · exact .inl ⟨(ha.pos h1).1, (hb.pos h2).1, (ha.pos h1).2, (hb.pos h2).2, h3⟩
  · exact .inr (.inl ⟨(ha.pos h1).1, (ha.pos h1).2, h2⟩)
  · exact .inr (.inr ⟨h1, (hb.pos h2).1, (hb.pos h2).2⟩)
theorem pr_none {x y : En} (h : (1 ≤ x.c ∧ 1 ≤ y.c ∧ 0 ≤ x.n ∧ 0 ≤ y.n ∧ x.k = y.k) ∨ (1 ≤ x.c ∧ 0 ≤ x.n ∧ y = eZ) ∨ (x = eZ ∧ 1 ≤ y.c ∧ 0 ≤ y.n)) (h0 : x.c = 0) : x = eZ ∧ 1 ≤ y.c ∧ 0 ≤ y.n := by
  rcases h with h | h | h
  · omega
  · omega
  · exact h
set_option maxHeartbeats 800000 in
theorem none_any (x : En) (w : World) {q : Bool} (hq : (x.c == 0) = q) : Calls Tryd.prog 56 #[.agg #[.string x.k, .int .i64 x.c, .int .i64 x.n, .string x.v, .bool x.d]] w fun e w' => e = .returned (.bool q) ∧ Below w.heap.size w w' := by
  subst hq
  go_enter Tryd.func56, Tryd.ntmps56
  go_wp2
  go_ret
  exact ⟨rfl, bnew _ _⟩
theorem bestRef_en (x y z : En) (w : World) (h : En.best x y = z) : Calls Tryd.prog 58 #[.agg #[.string x.k, .int .i64 x.c, .int .i64 x.n, .string x.v, .bool x.d], .agg #[.string y.k, .int .i64 y.c, .int .i64 y.n, .string y.v, .bool y.d]] w fun e w' => e = .returned (.agg #[.string z.k, .int .i64 z.c, .int .i64 z.n, .string z.v, .bool z.d]) ∧ Below w.heap.size w w' := bestRef_any _ _ _ _ _ _ _ _ _ _ _ _ _ _ _ w h
set_option maxHeartbeats 8000000 in
set_option maxRecDepth 100000 in
theorem rmax_any (a : Option Addr) (la ca : Nat) (A : Nat → En) (b : Option Addr) (lb cb : Nat) (B : Nat → En) (w : World) (hA : EntsIn w a la ca A) (hB : EntsIn w b lb cb B) (hl : la + lb ≤ 2147483648) :
    Calls Tryd.prog 24 #[.slice a la ca, .slice b lb cb] w fun e w' => Says w (ck2 A la B lb) (outL (ck2 A la B lb) (mxP (prs (firstE A la) (firstE B lb)))) e w' := by
  obtain ⟨q, hq⟩ : ∃ q, ck2 A la B lb = q := ⟨_, rfl⟩
  have CK := aside (rchk2_any a la ca A b lb cb B w hA hB)
  rw [hq] at CK ⊢
  have CP := aside (fun W (bb : Below w.heap.size w W) (h0 : q = 0) => pairs_ok a la ca A b lb cb B W (hA.keep bb) (hB.keep bb) (hq.trans h0) hl)
  have HLN0 := aside (show (prs (firstE A la) (firstE B lb)).length ≤ 2147483648 from by have := prs_len (firstE A la) (firstE B lb); rw [firstE_len, firstE_len] at this; omega)
  have HMM := aside (fun (h0 : q = 0) => ck2_ok.1 (hq.trans h0))
  clear hA hB hl hq
  by_cases h0 : q = 0
  · subst h0
    rw [outL_ok _ rfl]
    have HPR := aside (fun p (hp : p ∈ prs (firstE A la) (firstE B lb)) => pr_two (HMM.out rfl).1 (HMM.out rfl).2 hp)
    generalize prs (firstE A la) (firstE B lb) = l at *
    go_enter Tryd.func24, Tryd.ntmps24
    go_wp2_with fail
    refine CK.out.mono ?_
    rintro e w1 ⟨rfl, b1⟩
    have B1 := aside b1
    clear b1
    go_wp2_with fail
    refine (CP.out _ B1.out (by first | rfl | trivial)).mono ?_
    rintro e w3 ⟨g, cp, rfl, own3, b3⟩
    have B3 := aside (bthen B1.out b3)
    have O3 := aside own3
    clear own3 b3 CK CP B1 HMM
    obtain ⟨n, hn⟩ : ∃ n, l.length = n := ⟨_, rfl⟩
    have HN0 := aside hn
    rw [hn] at O3 HLN0 ⊢
    clear hn
    have hln : (n : Int) ≤ 2147483648 := by have := HLN0.out; omega
    have BE := aside (bnew w3 (.cells #[] 33))
    have OE := aside (own_emptyE w3 w3.heap.size (Nat.le_refl _))
    go_wp2
    go_loopw [8, 9] (fun v i wr => ∃ k : Nat, i = .int .i64 (k : Int) ∧ k ≤ n ∧ wr.ownsRow w3.heap.size 33 5 v (mxP (l.take k)).length (entCells (mxP (l.take k))) ∧ Below w3.heap.size w3 wr) (fun _ i _ => n - (intOf i).toNat)
    case atStart => exact ⟨0, rfl, Nat.zero_le _, OE.out, BE.out⟩
    case round =>
      obtain ⟨k, rfl, hk, hO, hB⟩ := hrel
      have HB := aside hB
      have HO := aside hO
      clear hB hO
      by_cases hlt : (k : Int) < (n : Int)
      · have hk0 : (0 : Int) ≤ (k : Int) := by omega
        obtain ⟨⟨x, y⟩, hp⟩ : ∃ p, l[k]? = some p := ⟨_, List.getElem?_eq_getElem (by rw [HN0.out]; omega)⟩
        have PCW := aside (fun W (bb : Below w3.heap.size w3 W) => pr_cells (own_on O3.out bb) hp)
        have HTW := aside (HPR.out _ (List.mem_of_getElem? hp))
        have HLN := aside (show (mxP (l.take k)).length ≤ 2147483648 from by have h1 := mxP_len (l.take k); have h2 := List.length_take_le k l; omega)
        have HTK := aside (show l.take (k + 1) = l.take k ++ [(x, y)] from by rw [List.take_add_one, hp]; rfl)
        clear hp
        obtain ⟨⟨c0, c1, c2, c3, c4⟩, c5, c6, c7, c8, c9⟩ := PCW.out _ HB.out
        cases hq : (x.c == 0)
        · have CN := aside (fun W => none_any x W hq)
          obtain ⟨z, hz⟩ : ∃ z, En.best x y = z := ⟨_, rfl⟩
          have CB := aside (fun W => bestRef_en x y z W hz)
          have HSN := aside (show mxP (l.take (k + 1)) = mxP (l.take k) ++ [z] from by rw [HTK.out]; simp [mxP, hz])
          clear hq hz
          go_wp2_with fail
          refine (CN.out _).mono ?_
          rintro e w9 ⟨rfl, bb⟩
          replace HO := aside (own_on HO.out bb)
          replace HB := aside (bthen HB.out bb)
          clear bb c0 c1 c2 c3 c4 c5 c6 c7 c8 c9 CN
          obtain ⟨⟨c0, c1, c2, c3, c4⟩, c5, c6, c7, c8, c9⟩ := PCW.out _ HB.out
          go_wp2_with fail
          refine wp_region_held_drew (S := fun W => Below w3.heap.size w3 W ∧ (W.cell? ⟨g, k * 10, none⟩ = some (.string x.k) ∧ W.cell? ⟨g, k * 10 + 1, none⟩ = some (.int .i64 x.c) ∧ W.cell? ⟨g, k * 10 + 2, none⟩ = some (.int .i64 x.n) ∧ W.cell? ⟨g, k * 10 + 3, none⟩ = some (.string x.v) ∧ W.cell? ⟨g, k * 10 + 4, none⟩ = some (.bool x.d)) ∧ W.cell? ⟨g, k * 10 + 5, none⟩ = some (.string y.k) ∧ W.cell? ⟨g, k * 10 + 6, none⟩ = some (.int .i64 y.c) ∧ W.cell? ⟨g, k * 10 + 7, none⟩ = some (.int .i64 y.n) ∧ W.cell? ⟨g, k * 10 + 8, none⟩ = some (.string y.v) ∧ W.cell? ⟨g, k * 10 + 9, none⟩ = some (.bool y.d)) (by kernel_rfl) ⟨HB.out.drew, PCW.out _ HB.out.drew⟩ (fun hHeld => ?_)
          refine wpAnyH_take (i := 0) (v := ?_) rfl (by kernel_rfl) (by kernel_rfl) (by kernel_rfl) (fun _ _ _ h => h) (Or.inl ⟨by rfl, ?_⟩) (by assumption) ?_
          rotate_left
          · intro w hSw
            go_simp
            try with_reducible rfl
          simp only [Act.put, List.getElem_toArray, List.getElem_cons_zero, List.setIfInBounds_toArray, List.set_cons_zero, List.set_cons_succ]
          refine wpAnyH_take (i := 1) (v := ?_) rfl (by kernel_rfl) (by kernel_rfl) (by kernel_rfl) (fun _ _ _ h => h) (Or.inl ⟨by rfl, ?_⟩) (by assumption) ?_
          rotate_left
          · intro w hSw
            go_simp
            try with_reducible rfl
          simp only [Act.put, List.getElem_toArray, List.getElem_cons_zero, List.getElem_cons_succ, List.setIfInBounds_toArray, List.set_cons_zero, List.set_cons_succ]
          refine wpAnyH_take (i := 2) (v := ?_) rfl (by kernel_rfl) (by kernel_rfl) (by kernel_rfl) (fun _ _ _ h => h) (Or.inl ⟨by rfl, ?_⟩) (by assumption) ?_
          rotate_left
          · intro w hSw
            go_simp
            try with_reducible rfl
          simp only [Act.put, List.getElem_toArray, List.getElem_cons_zero, List.getElem_cons_succ, List.setIfInBounds_toArray, List.set_cons_zero, List.set_cons_succ]
          refine wpAnyH_take (i := 3) (v := ?_) rfl (by kernel_rfl) (by kernel_rfl) (by kernel_rfl) (fun _ _ _ h => h) (Or.inl ⟨by rfl, ?_⟩) (by assumption) ?_
          rotate_left
          · intro w hSw
            go_simp
            try with_reducible rfl
          simp only [Act.put, List.getElem_toArray, List.getElem_cons_zero, List.getElem_cons_succ, List.setIfInBounds_toArray, List.set_cons_zero, List.set_cons_succ]
          refine wpAnyH_take (i := 4) (v := ?_) rfl (by kernel_rfl) (by kernel_rfl) (by kernel_rfl) (fun _ _ _ h => h) (Or.inl ⟨by rfl, ?_⟩) (by assumption) ?_
          rotate_left
          · intro w hSw
            go_simp
            try with_reducible rfl
          simp only [Act.put, List.getElem_toArray, List.getElem_cons_zero, List.getElem_cons_succ, List.setIfInBounds_toArray, List.set_cons_zero, List.set_cons_succ]
          refine wpAnyH_take (i := 5) (v := ?_) rfl (by kernel_rfl) (by kernel_rfl) (by kernel_rfl) (fun _ _ _ h => h) (Or.inl ⟨by rfl, ?_⟩) (by assumption) ?_
          rotate_left
          · intro w hSw
            go_simp
            try with_reducible rfl
          simp only [Act.put, List.getElem_toArray, List.getElem_cons_zero, List.getElem_cons_succ, List.setIfInBounds_toArray, List.set_cons_zero, List.set_cons_succ]
          refine wpAnyH_take (i := 6) (v := ?_) rfl (by kernel_rfl) (by kernel_rfl) (by kernel_rfl) (fun _ _ _ h => h) (Or.inl ⟨by rfl, ?_⟩) (by assumption) ?_
          rotate_left
          · intro w hSw
            go_simp
            try with_reducible rfl
          simp only [Act.put, List.getElem_toArray, List.getElem_cons_zero, List.getElem_cons_succ, List.setIfInBounds_toArray, List.set_cons_zero, List.set_cons_succ]
          refine wpAnyH_take (i := 7) (v := ?_) rfl (by kernel_rfl) (by kernel_rfl) (by kernel_rfl) (fun _ _ _ h => h) (Or.inl ⟨by rfl, ?_⟩) (by assumption) ?_
          rotate_left
          · intro w hSw
            go_simp
            try with_reducible rfl
          simp only [Act.put, List.getElem_toArray, List.getElem_cons_zero, List.getElem_cons_succ, List.setIfInBounds_toArray, List.set_cons_zero, List.set_cons_succ]
          refine wpAnyH_take (i := 8) (v := ?_) rfl (by kernel_rfl) (by kernel_rfl) (by kernel_rfl) (fun _ _ _ h => h) (Or.inl ⟨by rfl, ?_⟩) (by assumption) ?_
          rotate_left
          · intro w hSw
            go_simp
            try with_reducible rfl
          simp only [Act.put, List.getElem_toArray, List.getElem_cons_zero, List.getElem_cons_succ, List.setIfInBounds_toArray, List.set_cons_zero, List.set_cons_succ]
          refine wpAnyH_take (i := 9) (v := ?_) rfl (by kernel_rfl) (by kernel_rfl) (by kernel_rfl) (fun _ _ _ h => h) (Or.inl ⟨by rfl, ?_⟩) (by assumption) ?_
          rotate_left
          · intro w hSw
            go_simp
            try with_reducible rfl
          simp only [Act.put, List.getElem_toArray, List.getElem_cons_zero, List.getElem_cons_succ, List.setIfInBounds_toArray, List.set_cons_zero, List.set_cons_succ]
          refine wpAnyH_take (i := 10) (v := ?_) rfl (by kernel_rfl) (by kernel_rfl) (by kernel_rfl) (fun _ _ _ h => h) (Or.inl ⟨by rfl, ?_⟩) (by assumption) ?_
          rotate_left
          · intro w hSw
            go_simp
            try with_reducible rfl
          simp only [Act.put, List.getElem_toArray, List.getElem_cons_zero, List.getElem_cons_succ, List.setIfInBounds_toArray, List.set_cons_zero, List.set_cons_succ]
          replace HO := aside (own_on HO.out (Below.refl _ w9).drew)
          clear c0 c1 c2 c3 c4 c5 c6 c7 c8 c9
          refine wpAnyH_ready (rs := [11]) (by kernel_rfl) (by simp) ?_
          refine AllReadyH.cons rfl (fun K hK => ?_) AllReadyH.nil
          go_simp
          refine (CB.out _).mono ?_
          rintro e w8 ⟨rfl, bb⟩
          have B8 := aside (hHeld.1.trans (bb.mono hHeld.1.size))
          refine hK.out _ _ ⟨B8.out, PCW.out _ B8.out⟩ (fun hHeld => ?_)
          replace HO := aside (own_on HO.out bb)
          clear hK K bb B8 HB
          refine wpAnyH_ready (rs := [12]) (by kernel_rfl) (by simp) ?_
          refine AllReadyH.cons rfl (fun K hK => ?_) AllReadyH.nil
          go_simp
          have bN := bnew w8 (.cells #[.string z.k, .int .i64 z.c, .int .i64 z.n, .string z.v, .bool z.d] 33)
          have hH2 := aside (show Below w3.heap.size w3 (w8.alloc (.cells #[.string z.k, .int .i64 z.c, .int .i64 z.n, .string z.v, .bool z.d] 33)) from hHeld.1.trans (bN.mono hHeld.1.size))
          refine hK.out _ _ ⟨hH2.out, PCW.out _ hH2.out⟩ (fun hHeld => ?_)
          clear hK K
          refine wpAnyH_ready (rs := [13]) (by kernel_rfl) (by simp) ?_
          refine AllReadyH.cons rfl (fun K hK => ?_) AllReadyH.nil
          refine op_append_ent _ _ rfl w3.heap.size _ _ _ (by rfl) (HO.out.alloc (.cells #[.string z.k, .int .i64 z.c, .int .i64 z.n, .string z.v, .bool z.d] 33)) w8.heap.size 1 z (by rfl) (heap_alloc_new w8 (.cells #[.string z.k, .int .i64 z.c, .int .i64 z.n, .string z.v, .bool z.d] 33)) (by have := HLN.out; omega) (by have := hH2.out.size; simp at this ⊢; omega) ?_
          intro g1 cp1 w4 own4 gr4
          have B4 := aside (hH2.out.grown gr4 hH2.out.size (fun k e => (HO.out.lt k e).1))
          refine hK.out _ _ ⟨B4.out, PCW.out _ B4.out⟩ (fun hHeld => ?_)
          have O4 := aside own4
          clear hK K own4 gr4
          simp only [Act.put, List.getElem_toArray, List.getElem_cons_zero, List.getElem_cons_succ, List.setIfInBounds_toArray, List.set_cons_zero, List.set_cons_succ]
          refine wpAnyH_take (i := 14) (v := ?_) rfl (by kernel_rfl) (by kernel_rfl) (by kernel_rfl) (fun _ _ _ h => h) (Or.inl ⟨by rfl, ?_⟩) (by assumption) ?_
          rotate_left
          · intro w hSw
            go_simp
            try with_reducible rfl
          simp only [Act.put, List.getElem_toArray, List.getElem_cons_zero, List.getElem_cons_succ, List.setIfInBounds_toArray, List.set_cons_zero, List.set_cons_succ]
          refine wpAnyH_done (by kernel_rfl) ?_ _
          clear hHeld hH2 HO
          go_wp2
          go_roundw
          case rel => exact ⟨k + 1, by go_num, by omega, by rw [HSN.out, List.length_append]; exact O4.out, B4.out⟩
          case measure => simp [intOf]; omega
        · have CN := aside (fun W => none_any x W hq)
          have HSN := aside (show mxP (l.take (k + 1)) = mxP (l.take k) ++ [y] from by
            rw [HTK.out]
            have h1 : x = eZ ∧ 1 ≤ y.c ∧ 0 ≤ y.n := pr_none HTW.out (by simpa using hq)
            unfold mxP
            rw [List.map_append]
            show _ ++ [En.best x y] = _
            rw [h1.1, best_zl h1.2])
          clear hq
          go_wp2_with fail
          refine (CN.out _).mono ?_
          rintro e w9 ⟨rfl, bb⟩
          replace HO := aside (own_on HO.out bb)
          replace HB := aside (bthen HB.out bb)
          clear bb c0 c1 c2 c3 c4 c5 c6 c7 c8 c9 CN
          obtain ⟨⟨c0, c1, c2, c3, c4⟩, c5, c6, c7, c8, c9⟩ := PCW.out _ HB.out
          go_wp2_with (at_builtin; go_loud (refine wpList_plain rfl fun K hK => op_append_ent _ _ rfl w3.heap.size _ _ _ (by rfl) (HO.out.alloc _) w9.heap.size 1 y (by rfl) (heap_alloc_new w9 _) (by have := HLN.out; omega) (by have := HB.out.size; simp; omega) ?_); intro g1 cp1 w4 own4 gr4; refine hK _ _ ?_; refine Hid.out ?_)
          refine aside ?_
          have B4 := aside ((HB.out.alloc HB.out.size (.cells #[.string y.k, .int .i64 y.c, .int .i64 y.n, .string y.v, .bool y.d] 33)).grown gr4 (by have := HB.out.size; simp; omega) (fun k e => (HO.out.lt k e).1))
          have O4 := aside own4
          clear own4 gr4
          clear c0 c1 c2 c3 c4 c5 c6 c7 c8 c9
          go_wp2
          go_roundw
          case rel => exact ⟨k + 1, by go_num, by omega, by rw [HSN.out, List.length_append]; exact O4.out, B4.out⟩
          case measure => simp [intOf]; omega
      · have hkl : k = n := by omega
        subst hkl
        have hT : l.take k = l := List.take_of_length_le (by rw [HN0.out]; exact Nat.le_refl _)
        rw [hT] at HO
        replace HO := aside (own_low HO.out B3.out.size)
        clear hT
        go_wp2
        go_ret2
        exact ⟨_, rfl, HO.out, bthen B3.out HB.out⟩
  · have h0' : (q == 0) = false := by simpa using h0
    rw [outL_bad _ h0]
    clear h0 CP HMM
    go_enter Tryd.func24, Tryd.ntmps24
    go_wp2_with fail
    refine CK.out.mono ?_
    rintro e w1 ⟨rfl, b1⟩
    have B1 := aside b1
    clear b1 CK
    go_wp2
    go_ret2
    exact ⟨_, rfl, World.ownsRow_nil _ _ _ _, B1.out⟩
end Go.Proofs.YtoflalflacopdaaDoor
namespace Go.Proofs.YtoflalflacopdaaDoor
open Go.RowKit Go.Shelf
set_option linter.unusedVariables false
attribute [local go_sem] Oper.semAt_some
end Go.Proofs.YtoflalflacopdaaDoor

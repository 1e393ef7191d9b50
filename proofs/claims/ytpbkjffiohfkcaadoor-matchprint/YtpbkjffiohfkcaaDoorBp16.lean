/-
  A list of one part.
  The code's Load, of what a store can be made of.
  held: all that a store holds, as a list of its own.
-/
import Derived.Test.YtpbkjffiohfkcaaDoorBp15
import Derived.Test.YtpbkjffiohfkcaaDoorBp9
import Derived.Test.YtpbkjffiohfkcaaDoorBp11
namespace Go.Proofs.YtpbkjffiohfkcaaDoor
open Go.RowKit
set_option linter.unusedVariables false
set_option maxHeartbeats 3200000 in
set_option maxRecDepth 100000 in
theorem one_any (p : Pm) (w : World) (h : p.In w) :
    Calls Tryd.prog 5 #[.agg #[.int .i64 p.kind, .string p.lo, .string p.hi, .bool p.op, .int .i64 p.cnt, .int .u64 p.s0, .int .u64 p.s1, .slice p.ea p.el p.ec]] w fun e w' => ∃ g c, e = .returned (.slice (some ⟨g, 0, none⟩) 1 c) ∧ PartsIn w' (some ⟨g, 0, none⟩) 1 c (fun _ => p) ∧ w.heap.size ≤ g ∧ Below w.heap.size w w' := by
  have B0 := aside (bnew w (.cells #[.int .i64 p.kind, .string p.lo, .string p.hi, .bool p.op, .int .i64 p.cnt, .int .u64 p.s0, .int .u64 p.s1, .slice p.ea p.el p.ec] 34))
  have K0 := aside (heap_alloc_new w (.cells #[.int .i64 p.kind, .string p.lo, .string p.hi, .bool p.op, .int .i64 p.cnt, .int .u64 p.s0, .int .u64 p.s1, .slice p.ea p.el p.ec] 34))
  have HP := aside h
  clear h
  obtain ⟨w0, hw0⟩ : ∃ w0, w.alloc (.cells #[.int .i64 p.kind, .string p.lo, .string p.hi, .bool p.op, .int .i64 p.cnt, .int .u64 p.s0, .int .u64 p.s1, .slice p.ea p.el p.ec] 34) = w0 := ⟨_, rfl⟩
  rw [hw0] at B0 K0
  have OE := aside (ownP_empty w0 w.heap.size B0.out.size)
  have KE := aside (blk_on K0.out (bnew w0 (.cells #[] 34)))
  have BE := aside (bthen B0.out (bnew w0 (.cells #[] 34)))
  clear K0
  obtain ⟨w1, hw1⟩ : ∃ w1, w0.alloc (.cells #[] 34) = w1 := ⟨_, rfl⟩
  rw [hw1] at OE KE BE
  obtain ⟨p0, p1, p2, p3, p4, p5, p6, p7⟩ := oct KE.out
  have PI := aside (show PartsIn (w1.alloc (.cells #[.int .i64 p.kind, .string p.lo, .string p.hi, .bool p.op, .int .i64 p.cnt, .int .u64 p.s0, .int .u64 p.s1, .slice p.ea p.el p.ec] 34)) (some ⟨w1.heap.size, 0, none⟩) 1 1 (fun _ => p) from ⟨Nat.le_refl _, by unfold maxLen; omega, .inr ⟨w1.heap.size, 0, rfl, by simp, fun i hi => ⟨by
    obtain rfl : i = 0 := by omega
    exact oct (heap_alloc_new w1 (.cells #[.int .i64 p.kind, .string p.lo, .string p.hi, .bool p.op, .int .i64 p.cnt, .int .u64 p.s0, .int .u64 p.s1, .slice p.ea p.el p.ec] 34)), HP.out.keep (bthen BE.out (bnew w1 _))⟩⟩⟩)
  go_enter Tryd.func5, Tryd.ntmps5
  go_wp2_with (at_builtin; go_loud (refine wpList_plain rfl fun K hK => op_append_parts (V := w) _ _ rfl 0 _ [] (by rfl) (OE.out.alloc _) ⟨w1.heap.size, 0, none⟩ 1 1 (fun _ => p) (by rfl) PI.out (by omega) (bthen BE.out (bnew w1 _)) ?_); intro v4 w4 own4 b4 gr4; refine hK _ _ ?_; refine Hid.out ?_)
  refine aside ?_
  rw [show ([] : List Pm) ++ firstP (fun _ => p) 1 = firstP (fun _ => p) 1 from rfl] at own4
  rcases own4.2 with ⟨_, h9⟩ | ⟨g, cap, cur, rfl, h2, h3⟩
  · omega
  have O4 := aside own4
  have B4 := aside b4
  have HG := aside h2
  clear own4 b4 gr4 h2 h3 p0 p1 p2 p3 p4 p5 p6 p7
  go_wp2
  go_ret
  exact ⟨g, cap, rfl, parts_of_row O4.out (fun i hi => HP.out.keep B4.out), HG.out, B4.out⟩
end Go.Proofs.YtpbkjffiohfkcaaDoor
namespace Go.Proofs.YtpbkjffiohfkcaaDoor
open Go.RowKit
set_option linter.unusedVariables false
set_option maxHeartbeats 3200000 in
set_option maxRecDepth 100000 in
theorem qhold (e : En) {w : World} {sb g tb : Nat} {nd ck : Int} {Ls : List En} (h : Sto w sb g tb nd ck Ls) (L : Lanes w) (hl : Ls.length ≤ 1000000) (hk : e.k.size ≤ 140737488351232) :
    Calls Tryd.prog 26 #[.pointer (some ⟨sb, 0, none⟩), .agg #[.string e.k, .int .i64 e.c, .int .i64 e.n, .string e.v, .bool e.d]] w fun r w' => r = .returned (.tuple #[]) ∧ Sto w' sb g tb nd (ckm ck e.c) (insE e Ls) ∧ Keeps (Of sb g tb) w w' ∧ Lanes w' := by
  obtain ⟨T, n, h1, h2⟩ := h
  exact (shold e h1 L h2 hl hk).mono fun r w' ⟨e1, e2, e3⟩ => ⟨e1, ⟨_, _, e2, h2.put e⟩, e3, L.keeps e3 (L.apart h1)⟩
set_option maxHeartbeats 3200000 in
set_option maxRecDepth 100000 in
theorem sload (nd ck : Int) (a : Option Addr) (len cap : Nat) (T : Nat → En) (w : World) (h : EntsIn w a len cap T) (L : Lanes w) (hO : LdOk nd ck (firstE T len)) :
    Calls Tryd.prog 14 #[.int .i64 nd, .int .i64 ck, .slice a len cap] w fun e w' => Below w.heap.size w w' ∧ Lanes w' ∧ ∃ sb g tb, e = .returned (.tuple #[.pointer (some ⟨sb, 0, none⟩), .int .i64 0]) ∧ Sto w' sb g tb nd ck (firstE T len) ∧ w.heap.size ≤ sb ∧ w.heap.size ≤ g ∧ w.heap.size ≤ tb := by
  have HE := aside h
  have HO := aside hO
  have L0 := aside L
  clear L h
  have hnd : 0 ≤ nd ∧ nd < 8 := by have := hO.nd; simpa [nodeB] using this
  obtain ⟨hn1, hn2⟩ := hnd
  have h1 : ¬ nd < 0 := by omega
  have h2 : ¬ 8 ≤ nd := by omega
  have h3 : ¬ ck < 0 := by have := hO.c0; omega
  have h4 : ¬ 1099511627776 < ck := by have := hO.c1; omega
  have h5 : ¬ (256 : Int) < (len : Int) := by have := hO.len; rw [firstE_len] at this; omega
  have hmx : (len : Int) ≤ 9223372036854775807 := by omega
  clear hO hn1 hn2
  have C := aside (sempty nd ck w)
  go_enter Tryd.func14, Tryd.ntmps14
  go_wp2_with fail
  refine C.out.mono ?_
  rintro e w0 ⟨sb, g, tb, rfl, hs, b0, l1, l2, l3⟩
  have HS0 := aside (show Sto w0 sb g tb nd ck (firstE T 0) from ⟨_, _, hs, Hol.nil⟩)
  have B0 := aside b0
  have LL := aside (L0.out.keep b0)
  have HG := aside (show w.heap.size ≤ sb ∧ w.heap.size ≤ g ∧ w.heap.size ≤ tb from ⟨l1, l2, l3⟩)
  clear hs b0 l1 l2 l3 C h1 h2 h3 h4
  go_wp2
  go_loopw [36] (fun i wr => ∃ j : Nat, i = .int .i64 (j : Int) ∧ j ≤ len ∧ Sto wr sb g tb nd ck (firstE T j) ∧ Lanes wr ∧ Below w.heap.size w wr) (fun i _ => len - (intOf i).toNat)
  case atStart => exact ⟨0, rfl, Nat.zero_le _, HS0.out, LL.out, B0.out⟩
  case round =>
    obtain ⟨j, rfl, hj, hS, hL, hB⟩ := hrel
    have HB := aside hB
    have HS1 := aside hS
    have HL1 := aside hL
    clear hB hS hL LL B0 HS0
    by_cases hlt : (j : Int) < (len : Int)
    · have hE := HE.out.keep HB.out
      rcases hE.2.2 with h0 | ⟨b, off, rfl, hb, hc⟩
      · omega
      obtain ⟨⟨c0, c1, c2, c3, c4⟩, -⟩ := hc j (by omega)
      have hq : (T j).chk = 0 := HO.out.map.chk _ (first_mem (by omega))
      have HQ := aside hq
      have hver : (T j).c ≤ ck := HO.out.ver _ (first_mem (by omega))
      have HV := aside hver
      have hj0 : (0 : Int) ≤ (j : Int) := by omega
      have HCC := aside hc
      clear hc hE hver
      obtain ⟨t, ht⟩ : ∃ t, T j = t := ⟨_, rfl⟩
      have HT := aside ht
      rw [ht] at c0 c1 c2 c3 c4 hq HQ HV
      have CQ := aside (fun W => chk_of t W hq _ ichk_any)
      clear ht hq
      go_wp2_with fail
      refine (CQ.out _).mono ?_
      rintro e w1 ⟨rfl, b1⟩
      have BN := bthen (bnew wr (.cells #[.string t.k, .int .i64 t.c, .int .i64 t.n, .string t.v, .bool t.d] 54)) b1
      have B2 := aside (HB.out.trans (BN.mono HB.out.size))
      have HS := aside (HS1.out.below BN)
      have HL := aside (HL1.out.keep BN)
      have KB := aside (blk_on (heap_alloc_new wr (.cells #[.string t.k, .int .i64 t.c, .int .i64 t.n, .string t.v, .bool t.d] 54)) b1)
      obtain ⟨⟨e0, -⟩, -⟩ := box5 KB.out
      have HC2 := aside (fun (i : Nat) (hi : i < len) => cell_in (HCC.out i hi).1.1 BN)
      generalize wr.heap.size = bx at *
      clear b1 c0 c1 c2 c3 c4 CQ HCC BN HS1 HL1
      cases j with
      | zero =>
        go_wp2_with fail
        refine wp_region_held_drew (S := fun W => Below w1.heap.size w1 W) (by kernel_rfl) ((Below.refl _ w1).drew) (fun hHeld => ?_)
        refine wpAnyH_take (i := 0) (v := ?_) rfl (by kernel_rfl) (by kernel_rfl) (by kernel_rfl) (fun _ _ _ h => h) (Or.inl ⟨by rfl, ?_⟩) (by assumption) ?_
        rotate_left
        · intro w hSw
          go_simp
          try with_reducible rfl
        simp only [Act.put, List.getElem_toArray, List.getElem_cons_zero, List.setIfInBounds_toArray, List.set_cons_zero, List.set_cons_succ]
        refine wpAnyH_take (i := 1) (v := ?_) rfl (by kernel_rfl) (by kernel_rfl) (by kernel_rfl) (fun _ _ _ h => h) (Or.inl ⟨by rfl, ?_⟩) (by assumption) ?_
        rotate_left
        · intro w hSw
          go_simp
          try with_reducible rfl
        simp only [Act.put, List.getElem_toArray, List.getElem_cons_zero, List.getElem_cons_succ, List.setIfInBounds_toArray, List.set_cons_zero, List.set_cons_succ]
        refine wpAnyH_take (i := 2) (v := ?_) rfl (by kernel_rfl) (by kernel_rfl) (by kernel_rfl) (fun _ _ _ h => h) (Or.inl ⟨by rfl, ?_⟩) (by assumption) ?_
        rotate_left
        · intro w hSw
          go_simp
          try with_reducible rfl
        simp only [Act.put, List.getElem_toArray, List.getElem_cons_zero, List.getElem_cons_succ, List.setIfInBounds_toArray, List.set_cons_zero, List.set_cons_succ]
        refine wpAnyH_take (i := 3) (v := undef) rfl (by kernel_rfl) (by kernel_rfl) (by kernel_rfl) (fun _ _ _ h => h) (Or.inr ⟨by rfl, rfl⟩) (by assumption) ?_
        simp only [Act.put, List.getElem_toArray, List.getElem_cons_zero, List.getElem_cons_succ, List.setIfInBounds_toArray, List.set_cons_zero, List.set_cons_succ]
        refine wpAnyH_take (i := 4) (v := undef) rfl (by kernel_rfl) (by kernel_rfl) (by kernel_rfl) (fun _ _ _ h => h) (Or.inr ⟨by rfl, rfl⟩) (by assumption) ?_
        simp only [Act.put, List.getElem_toArray, List.getElem_cons_zero, List.getElem_cons_succ, List.setIfInBounds_toArray, List.set_cons_zero, List.set_cons_succ]
        refine wpAnyH_take (i := 5) (v := undef) rfl (by kernel_rfl) (by kernel_rfl) (by kernel_rfl) (fun _ _ _ h => h) (Or.inr ⟨by rfl, rfl⟩) (by assumption) ?_
        simp only [Act.put, List.getElem_toArray, List.getElem_cons_zero, List.getElem_cons_succ, List.setIfInBounds_toArray, List.set_cons_zero, List.set_cons_succ]
        refine wpAnyH_take (i := 6) (v := undef) rfl (by kernel_rfl) (by kernel_rfl) (by kernel_rfl) (fun _ _ _ h => h) (Or.inr ⟨by rfl, rfl⟩) (by assumption) ?_
        simp only [Act.put, List.getElem_toArray, List.getElem_cons_zero, List.getElem_cons_succ, List.setIfInBounds_toArray, List.set_cons_zero, List.set_cons_succ]
        refine wpAnyH_take (i := 7) (v := undef) rfl (by kernel_rfl) (by kernel_rfl) (by kernel_rfl) (fun _ _ _ h => h) (Or.inr ⟨by rfl, rfl⟩) (by assumption) ?_
        simp only [Act.put, List.getElem_toArray, List.getElem_cons_zero, List.getElem_cons_succ, List.setIfInBounds_toArray, List.set_cons_zero, List.set_cons_succ]
        refine wpAnyH_take (i := 8) (v := undef) rfl (by kernel_rfl) (by kernel_rfl) (by kernel_rfl) (fun _ _ _ h => h) (Or.inr ⟨by rfl, rfl⟩) (by assumption) ?_
        simp only [Act.put, List.getElem_toArray, List.getElem_cons_zero, List.getElem_cons_succ, List.setIfInBounds_toArray, List.set_cons_zero, List.set_cons_succ]
        refine wpAnyH_take (i := 9) (v := undef) rfl (by kernel_rfl) (by kernel_rfl) (by kernel_rfl) (fun _ _ _ h => h) (Or.inr ⟨by rfl, rfl⟩) (by assumption) ?_
        simp only [Act.put, List.getElem_toArray, List.getElem_cons_zero, List.getElem_cons_succ, List.setIfInBounds_toArray, List.set_cons_zero, List.set_cons_succ]
        refine wpAnyH_take (i := 10) (v := undef) rfl (by kernel_rfl) (by kernel_rfl) (by kernel_rfl) (fun _ _ _ h => h) (Or.inr ⟨by rfl, rfl⟩) (by assumption) ?_
        simp only [Act.put, List.getElem_toArray, List.getElem_cons_zero, List.getElem_cons_succ, List.setIfInBounds_toArray, List.set_cons_zero, List.set_cons_succ]
        refine wpAnyH_take (i := 11) (v := undef) rfl (by kernel_rfl) (by kernel_rfl) (by kernel_rfl) (fun _ _ _ h => h) (Or.inr ⟨by rfl, rfl⟩) (by assumption) ?_
        simp only [Act.put, List.getElem_toArray, List.getElem_cons_zero, List.getElem_cons_succ, List.setIfInBounds_toArray, List.set_cons_zero, List.set_cons_succ]
        refine wpAnyH_take (i := 12) (v := ?_) rfl (by kernel_rfl) (by kernel_rfl) (by kernel_rfl) (fun _ _ _ h => h) (Or.inl ⟨by rfl, ?_⟩) (by assumption) ?_
        rotate_left
        · intro w hSw
          go_simp
          try with_reducible rfl
        simp only [Act.put, List.getElem_toArray, List.getElem_cons_zero, List.getElem_cons_succ, List.setIfInBounds_toArray, List.set_cons_zero, List.set_cons_succ]
        refine wpAnyH_take (i := 13) (v := ?_) rfl (by kernel_rfl) (by kernel_rfl) (by kernel_rfl) (fun _ _ _ h => h) (Or.inl ⟨by rfl, ?_⟩) (by assumption) ?_
        rotate_left
        · intro w hSw
          go_simp
          try with_reducible rfl
        simp only [Act.put, List.getElem_toArray, List.getElem_cons_zero, List.getElem_cons_succ, List.setIfInBounds_toArray, List.set_cons_zero, List.set_cons_succ]
        refine wpAnyH_done (by kernel_rfl) ?_ _
        have B3 := aside hHeld
        clear hHeld e0
        have KX := aside (blk_on KB.out B3.out)
        obtain ⟨⟨y0, y1, y2, y3, y4⟩, -⟩ := box5 KX.out
        have hv : ¬ ck < t.c := by have := HV.out; omega
        have hS9 := HS.out.below B3.out
        have CH := aside (fun W (hW : Sto W sb g tb nd ck (firstE T 0)) (hL : Lanes W) => qhold t hW hL (by rw [firstE_len]; have := HO.out.len; rw [firstE_len] at this; omega) (key_small HQ.out))
        go_wp2_with fail
        refine (CH.out _ hS9 (HL.out.keep B3.out)).mono ?_
        rintro e9 w9 ⟨rfl, s9, k9, l9⟩
        rw [ckm_low HV.out, ← HT.out, ld_step HO.out.map (by omega)] at s9
        have S9 := aside s9
        have L9 := aside l9
        have B9 := aside (B2.out.trans ((B3.out.mono B2.out.size).trans (k9.below (by have := B2.out.size; have := B3.out.size; omega) (fun k hk => by have := HG.out; unfold Of; omega))))
        clear s9 l9 k9 CH y0 y1 y2 y3 y4 hS9
        go_wp2
        go_roundw
        case rel => exact ⟨0 + 1, by go_num, by omega, S9.out, L9.out, B9.out⟩
        case measure => simp [intOf]; omega
      | succ k =>
        have d0 := HC2.out k (by omega)
        have hris : kLt (T k).k (T (k + 1)).k = true := by
          have h9 := (mapL_sub HO.out.map (first_sub T (show k + 2 ≤ len by omega))).rises
          rw [firstE_succ, rises_snoc] at h9
          exact h9.2 _ (first_mem (by omega))
        rw [HT.out] at hris
        obtain ⟨u, hu⟩ : ∃ u, T k = u := ⟨_, rfl⟩
        rw [hu] at d0 hris
        have HR := aside hris
        clear hu HC2 hris
        have hk0 : (0 : Int) ≤ (k : Int) := by omega
        have hk1 : (k : Int) < (len : Int) := by omega
        have hk2 : (0 : Int) ≤ (k : Int) + 1 := by omega
        have hk3 : (0 : Int) < (k : Int) + 1 := by omega
        have hk4 : (k : Int) + 1 < (len : Int) := by omega
        have hw2 : IntKind.i64.wrap (k : Int) = (k : Int) := by simp only [IntKind.wrap_i64]; omega
        go_wp2_with fail
        refine wp_region_held_drew (S := fun W => Below w1.heap.size w1 W ∧ W.cell? ⟨b, off + k * 5, none⟩ = some (.string u.k) ∧ W.cell? ⟨bx, 0, none⟩ = some (.string t.k)) (by kernel_rfl) ⟨(Below.refl _ w1).drew, d0, e0⟩ (fun hHeld => ?_)
        refine wpAnyH_take (i := 0) (v := ?_) rfl (by kernel_rfl) (by kernel_rfl) (by kernel_rfl) (fun _ _ _ h => h) (Or.inl ⟨by rfl, ?_⟩) (by assumption) ?_
        rotate_left
        · intro w hSw
          go_simp
          try with_reducible rfl
        simp only [Act.put, List.getElem_toArray, List.getElem_cons_zero, List.setIfInBounds_toArray, List.set_cons_zero, List.set_cons_succ]
        refine wpAnyH_take (i := 1) (v := ?_) rfl (by kernel_rfl) (by kernel_rfl) (by kernel_rfl) (fun _ _ _ h => h) (Or.inl ⟨by rfl, ?_⟩) (by assumption) ?_
        rotate_left
        · intro w hSw
          go_simp
          try with_reducible rfl
        simp only [Act.put, List.getElem_toArray, List.getElem_cons_zero, List.getElem_cons_succ, List.setIfInBounds_toArray, List.set_cons_zero, List.set_cons_succ]
        refine wpAnyH_take (i := 2) (v := ?_) rfl (by kernel_rfl) (by kernel_rfl) (by kernel_rfl) (fun _ _ _ h => h) (Or.inl ⟨by rfl, ?_⟩) (by assumption) ?_
        rotate_left
        · intro w hSw
          go_simp
          try with_reducible rfl
        simp only [Act.put, List.getElem_toArray, List.getElem_cons_zero, List.getElem_cons_succ, List.setIfInBounds_toArray, List.set_cons_zero, List.set_cons_succ]
        refine wpAnyH_take (i := 3) (v := ?_) rfl (by kernel_rfl) (by kernel_rfl) (by kernel_rfl) (fun _ _ _ h => h) (Or.inl ⟨by rfl, ?_⟩) (by assumption) ?_
        rotate_left
        · intro w hSw
          go_simp
          try with_reducible rfl
        simp only [Act.put, List.getElem_toArray, List.getElem_cons_zero, List.getElem_cons_succ, List.setIfInBounds_toArray, List.set_cons_zero, List.set_cons_succ]
        refine wpAnyH_take (i := 4) (v := ?_) rfl (by kernel_rfl) (by kernel_rfl) (by kernel_rfl) (fun _ _ _ h => h) (Or.inl ⟨by rfl, ?_⟩) (by assumption) ?_
        rotate_left
        · intro w hSw
          go_simp
          try with_reducible rfl
        simp only [Act.put, List.getElem_toArray, List.getElem_cons_zero, List.getElem_cons_succ, List.setIfInBounds_toArray, List.set_cons_zero, List.set_cons_succ]
        refine wpAnyH_take (i := 5) (v := ?_) rfl (by kernel_rfl) (by kernel_rfl) (by kernel_rfl) (fun _ _ _ h => h) (Or.inl ⟨by rfl, ?_⟩) (by assumption) ?_
        rotate_left
        · intro w hSw
          go_simp
          try with_reducible rfl
        simp only [Act.put, List.getElem_toArray, List.getElem_cons_zero, List.getElem_cons_succ, List.setIfInBounds_toArray, List.set_cons_zero, List.set_cons_succ]
        refine wpAnyH_take (i := 6) (v := ?_) rfl (by kernel_rfl) (by kernel_rfl) (by kernel_rfl) (fun _ _ _ h => h) (Or.inl ⟨by rfl, ?_⟩) (by assumption) ?_
        rotate_left
        · intro w hSw
          go_simp
          try with_reducible rfl
        simp only [Act.put, List.getElem_toArray, List.getElem_cons_zero, List.getElem_cons_succ, List.setIfInBounds_toArray, List.set_cons_zero, List.set_cons_succ]
        refine wpAnyH_take (i := 7) (v := ?_) rfl (by kernel_rfl) (by kernel_rfl) (by kernel_rfl) (fun _ _ _ h => h) (Or.inl ⟨by rfl, ?_⟩) (by assumption) ?_
        rotate_left
        · intro w hSw
          go_simp
          try with_reducible rfl
        simp only [Act.put, List.getElem_toArray, List.getElem_cons_zero, List.getElem_cons_succ, List.setIfInBounds_toArray, List.set_cons_zero, List.set_cons_succ]
        refine wpAnyH_take (i := 8) (v := ?_) rfl (by kernel_rfl) (by kernel_rfl) (by kernel_rfl) (fun _ _ _ h => h) (Or.inl ⟨by rfl, ?_⟩) (by assumption) ?_
        rotate_left
        · intro w hSw
          go_simp
          try with_reducible rfl
        simp only [Act.put, List.getElem_toArray, List.getElem_cons_zero, List.getElem_cons_succ, List.setIfInBounds_toArray, List.set_cons_zero, List.set_cons_succ]
        refine wpAnyH_take (i := 9) (v := ?_) rfl (by kernel_rfl) (by kernel_rfl) (by kernel_rfl) (fun _ _ _ h => h) (Or.inl ⟨by rfl, ?_⟩) (by assumption) ?_
        rotate_left
        · intro w hSw
          go_simp
          try with_reducible rfl
        simp only [Act.put, List.getElem_toArray, List.getElem_cons_zero, List.getElem_cons_succ, List.setIfInBounds_toArray, List.set_cons_zero, List.set_cons_succ]
        refine wpAnyH_take (i := 10) (v := ?_) rfl (by kernel_rfl) (by kernel_rfl) (by kernel_rfl) (fun _ _ _ h => h) (Or.inl ⟨by rfl, ?_⟩) (by assumption) ?_
        rotate_left
        · intro w hSw
          go_simp
          try with_reducible rfl
        simp only [Act.put, List.getElem_toArray, List.getElem_cons_zero, List.getElem_cons_succ, List.setIfInBounds_toArray, List.set_cons_zero, List.set_cons_succ]
        refine wpAnyH_take (i := 11) (v := .bool (!kLt u.k t.k)) rfl (by kernel_rfl) (by kernel_rfl) (by kernel_rfl) (fun _ _ _ h => h) (Or.inl ⟨by rfl, ?_⟩) (by assumption) ?_
        · intro w hSw
          go_simp
          exact leq_eq _ _
        simp only [Act.put, List.getElem_toArray, List.getElem_cons_zero, List.getElem_cons_succ, List.setIfInBounds_toArray, List.set_cons_zero, List.set_cons_succ]
        refine wpAnyH_take (i := 12) (v := ?_) rfl (by kernel_rfl) (by kernel_rfl) (by kernel_rfl) (fun _ _ _ h => h) (Or.inl ⟨by rfl, ?_⟩) (by assumption) ?_
        rotate_left
        · intro w hSw
          go_simp
          try with_reducible rfl
        simp only [Act.put, List.getElem_toArray, List.getElem_cons_zero, List.getElem_cons_succ, List.setIfInBounds_toArray, List.set_cons_zero, List.set_cons_succ]
        refine wpAnyH_take (i := 13) (v := ?_) rfl (by kernel_rfl) (by kernel_rfl) (by kernel_rfl) (fun _ _ _ h => h) (Or.inl ⟨by rfl, ?_⟩) (by assumption) ?_
        rotate_left
        · intro w hSw
          go_simp
          try with_reducible rfl
        simp only [Act.put, List.getElem_toArray, List.getElem_cons_zero, List.getElem_cons_succ, List.setIfInBounds_toArray, List.set_cons_zero, List.set_cons_succ]
        refine wpAnyH_done (by kernel_rfl) ?_ _
        have B3 := aside hHeld.1
        clear hHeld hw2 e0 d0
        cases hkk : kLt u.k t.k
        · rw [HR.out] at hkk
          cases hkk
        · clear hkk
          have KX := aside (blk_on KB.out B3.out)
          obtain ⟨⟨y0, y1, y2, y3, y4⟩, -⟩ := box5 KX.out
          have hv : ¬ ck < t.c := by have := HV.out; omega
          have hS9 := HS.out.below B3.out
          have CH := aside (fun W (hW : Sto W sb g tb nd ck (firstE T (k + 1))) (hL : Lanes W) => qhold t hW hL (by rw [firstE_len]; have := HO.out.len; rw [firstE_len] at this; omega) (key_small HQ.out))
          go_wp2_with fail
          refine (CH.out _ hS9 (HL.out.keep B3.out)).mono ?_
          rintro e9 w9 ⟨rfl, s9, k9, l9⟩
          rw [ckm_low HV.out, ← HT.out, ld_step HO.out.map (by omega)] at s9
          have S9 := aside s9
          have L9 := aside l9
          have B9 := aside (B2.out.trans ((B3.out.mono B2.out.size).trans (k9.below (by have := B2.out.size; have := B3.out.size; omega) (fun k hk => by have := HG.out; unfold Of; omega))))
          clear s9 l9 k9 CH y0 y1 y2 y3 y4 hS9
          go_wp2
          go_roundw
          case rel => exact ⟨(k + 1) + 1, by go_num, by omega, S9.out, L9.out, B9.out⟩
          case measure => simp [intOf]; omega
    · have hjl : j = len := by omega
      subst hjl
      go_wp2
      go_ret2
      refine ⟨HB.out, HL1.out, ?_⟩
      exact ⟨sb, rfl, g, tb, HS1.out, HG.out⟩
end Go.Proofs.YtpbkjffiohfkcaaDoor
namespace Go.Proofs.YtpbkjffiohfkcaaDoor
open Go.RowKit Go.Shelf
set_option linter.unusedVariables false
attribute [local go_sem] Oper.semAt_some
theorem kLt_none (x : ByteArray) : kLt x ⟨#[]⟩ = false := by
  have h : (⟨#[]⟩ : ByteArray).toList = [] := by kernel_rfl
  unfold kLt
  rw [h]
  cases x.toList <;> rfl
theorem thru_whole (Ls : List En) : thruL ⟨#[]⟩ ⟨#[]⟩ true true Ls = Ls := by
  unfold thruL
  rw [List.filter_eq_self.2 (fun e _ => Bool.true_or _)]
  exact List.filter_eq_self.2 (fun e _ => by simp [inR, kLt_none])
theorem chk_whole : Rg.chk ⟨⟨#[]⟩, ⟨#[]⟩, true⟩ = 0 := by kernel_rfl
/-- A list of entries in the variable at vb, its row laid from B on. -/
structure LstE (B : Nat) (vb : Nat) (l : List En) (X : World) : Prop where
  ex : ∃ v, X.heap[vb]? = some (.cells #[v] 22 (0, 0)) ∧ X.ownsRow B 54 5 v l.length (entCells l)
theorem ownsRow_own {A B' : World} {row : Option Nat} {base : Nat} {e : TypeId} {size : Nat} {v : Value} {n : Nat} {xs : List Value} (h : A.ownsRow base e size v n xs) (hg : A.grownBy B' row) (hr : ∀ r, row = some r → ∃ o : Obj, A.heap[r]? = some o ∧ o.isCells = false) : B'.ownsRow base e size v n xs := by
  refine ⟨h.1, ?_⟩
  rcases h.2 with hn | ⟨g, cap, cur, rfl, hb, hgk, r⟩
  · exact .inl hn
  · exact .inr ⟨g, cap, cur, rfl, hb, cells_own hgk hg hr, r⟩
theorem LstE.own {B vb : Nat} {l : List En} {A X : World} {row : Option Nat} (h : LstE B vb l A) (hg : A.grownBy X row) (hr : ∀ r, row = some r → ∃ o : Obj, A.heap[r]? = some o ∧ o.isCells = false) : LstE B vb l X := by
  obtain ⟨v, h1, h2⟩ := h.ex
  exact ⟨v, cells_own h1 hg hr, ownsRow_own h2 hg hr⟩
/-- The block of a row of entries. -/
theorem row_blk {X : World} {B n : Nat} {v : Value} {xs : List Value} (h : X.ownsRow B 54 5 v n xs) {r : Nat} (hr : v.ownBlock = some r) : B ≤ r ∧ ∃ cs, X.heap[r]? = some (.cells cs 54 (0, 0)) := by
  rcases h.2 with ⟨rfl, -⟩ | ⟨g, cap, cur, rfl, hb, hgk, -⟩
  · cases hr
  · cases hr; exact ⟨hb, _, hgk⟩
/-- One entry more. -/
theorem lst_step {w X X1 : World} {vb C : Nat} {l : List En} {x : En} {v v' : Value} {o : Obj} (hB : Below w.heap.size w X) (hvb : w.heap.size ≤ vb) (h1 : X.heap[vb]? = some (.cells #[v] 22 (0, 0))) (h2 : X.ownsRow w.heap.size 54 5 v l.length (entCells l))
    (ho : X1.ownsRow w.heap.size 54 5 v' (l.length + 1) (entCells l ++ entVals x)) (hg : (X.alloc o).grownBy X1 v.ownBlock) :
    X1.heap[vb]? = some (.cells #[v] 22 (0, 0)) ∧ LstE w.heap.size vb (l ++ [x]) (X1.setCell ⟨vb, 0, none⟩ v') ∧ Below w.heap.size w (X1.setCell ⟨vb, 0, none⟩ v') ∧ KeepsFrom C X (X1.setCell ⟨vb, 0, none⟩ v') ∧ KpT X (X1.setCell ⟨vb, 0, none⟩ v') := by
  have hne : some vb ≠ v.ownBlock := fun e => by
    obtain ⟨-, cs, h3⟩ := row_blk h2 e.symm
    rw [h1] at h3; simp at h3
  have hvb1 : X1.heap[vb]? = some (.cells #[v] 22 (0, 0)) := by
    rw [hg.block vb (by have := lt_of_blk h1; simp; omega) hne]
    exact blk_on h1 (bnew _ _)
  have st : ∀ T, T ≠ 54 → T ≠ 22 → Stay T X (X1.setCell ⟨vb, 0, none⟩ v') := fun T n1 n2 => by
    refine (((Stay.refl T X).alloc o).grown hg ?_).setCell _ (fun cs e => by dsimp only at e; rw [hvb1] at e; simp at e; exact n2 e.2.symm)
    intro r e cs hcs
    obtain ⟨-, cs', h3⟩ := row_blk h2 e
    rw [blk_on h3 (bnew _ _)] at hcs
    simp at hcs
    exact n1 hcs.2.symm
  refine ⟨hvb1, ⟨v', by rw [heap_setCell_same X1 vb 0 _ _ v' hvb1]; rfl, ?_⟩, ?_, ?_, st _ (by decide) (by decide), st _ (by decide) (by decide), st _ (by decide) (by decide)⟩
  · rw [List.length_append, entCells_append]
    have hx : entCells [x] = entVals x := by simp [entCells]
    rw [hx]
    refine ownsRow_keep (S := fun i => i = vb) ho ((Keeps.refl (fun i => i = vb) X1).setCell (p := ⟨vb, 0, none⟩) (fun _ => rfl) _) (fun j e1 e2 => ?_)
    subst e2
    obtain ⟨-, cs, h3⟩ := row_blk ho e1
    rw [hvb1] at h3; simp at h3
  · exact (((hB.alloc hB.size o).grown hg (by have := hB.size; simp; omega) (fun j e => (row_blk h2 e).1)).setCell (p := ⟨vb, 0, none⟩) hvb _)
  · have k1 : KeepsFrom C (X.alloc o) X1 := ⟨hg.size, fun i ob _ hi hob => (hg.block i (Array.getElem?_eq_some_iff.1 hi).1 (fun e => by
      obtain ⟨-, cs, h3⟩ := row_blk h2 e.symm
      rw [blk_on h3 (bnew _ _)] at hi
      injection hi with hi
      subst hi
      cases hob)).trans hi⟩
    exact ((KeepsFrom.of_grownBy (World.grownBy_alloc X o none) (fun j e => by cases e)).trans k1).trans ((KeepsOthers.setCell _ _ _).from _)
end Go.Proofs.YtpbkjffiohfkcaaDoor

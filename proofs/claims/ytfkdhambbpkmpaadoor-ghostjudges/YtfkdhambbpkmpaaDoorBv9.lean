/-
  In, the code's: what of a list is in a range.
  Max, the code's.
-/
import Derived.Test.YtfkdhambbpkmpaaDoorBv8
import Derived.Deep.RegionHeld
namespace Go.Proofs.YtfkdhambbpkmpaaDoor
open Go.RowKit
set_option linter.unusedVariables false
/-- The entries in a range. -/
def inL (r : Rg) (l : List En) : List En := l.filter (fun e => Rg.has r e.k)
theorem inL_snoc (r : Rg) (l : List En) (x : En) : inL r (l ++ [x]) = inL r l ++ (if Rg.has r x.k then [x] else []) := by
  unfold inL
  rw [List.filter_append]
  congr 1
  cases h : Rg.has r x.k <;> simp [h]
theorem inL_len (r : Rg) (l : List En) : (inL r l).length ≤ l.length := List.length_filter_le _ _
/-- What is wrong first with a list and a range. -/
def ckR (A : Nat → En) (la : Nat) (r : Rg) : Int := if ckN A la ≠ 0 then ckN A la else r.chk
theorem box3r {w : World} {i : Nat} {a b c : Value} {T : TypeId} (h : w.heap[i]? = some (.cells #[a, b, c] T (0, 0))) : w.cell? ⟨i, 0, none⟩ = some a ∧ w.cell? ⟨i, 1, none⟩ = some b ∧ w.cell? ⟨i, 2, none⟩ = some c :=
  ⟨by rw [cell_of_row _ _ 0 _ _ _ h]; rfl, by rw [cell_of_row _ _ 1 _ _ _ h]; rfl, by rw [cell_of_row _ _ 2 _ _ _ h]; rfl⟩
theorem holds_at {lo hi : ByteArray} {op : Bool} {k : ByteArray} {q : Bool} (h : Rg.has ⟨lo, hi, op⟩ k = q) (w : World) : Calls Tryd.prog 27 #[.agg #[.string lo, .string hi, .bool op], .string k] w fun e w' => e = .returned (.bool q) ∧ Below w.heap.size w w' := by
  subst h; exact holds_any lo hi op k w
set_option maxHeartbeats 6400000 in
set_option maxRecDepth 100000 in
theorem min_any (a : Option Addr) (la ca : Nat) (A : Nat → En) (lo hi : ByteArray) (op : Bool) (w : World) (hA : EntsIn w a la ca A) (hl : la ≤ 2147483648) :
    Calls Tryd.prog 11 #[.slice a la ca, .agg #[.string lo, .string hi, .bool op]] w fun e w' => Says w (ckR A la ⟨lo, hi, op⟩) (outL (ckR A la ⟨lo, hi, op⟩) (inL ⟨lo, hi, op⟩ (firstE A la))) e w' := by
  obtain ⟨q, hq⟩ : ∃ q, ckN A la = q := ⟨_, rfl⟩
  obtain ⟨r, hr⟩ : ∃ r, Rg.chk ⟨lo, hi, op⟩ = r := ⟨_, rfl⟩
  have CA := aside (mchk_any a la ca A _ (hA.keep (bnew w (.cells #[.string lo, .string hi, .bool op] 26))))
  have CR := aside (fun W => check_at hr W)
  rw [hq] at CA
  have HA := aside hA
  have HCK := aside (show ckR A la ⟨lo, hi, op⟩ = if q ≠ 0 then q else r from by unfold ckR; rw [hq, hr])
  have hmx : (la : Int) ≤ 9223372036854775807 := by omega
  clear hA hq hr
  by_cases h0 : q = 0
  · subst h0
    by_cases h1 : r = 0
    · subst h1
      rw [show ckR A la ⟨lo, hi, op⟩ = 0 from HCK.out, outL_ok _ rfl]
      go_enter Tryd.func11, Tryd.ntmps11
      go_wp2_with fail
      refine CA.out.mono ?_
      rintro e w1 ⟨rfl, b1⟩
      have B1 := aside (bthen (bnew w (.cells #[.string lo, .string hi, .bool op] 26)) b1)
      have K1 := aside (blk_on (heap_alloc_new w (.cells #[.string lo, .string hi, .bool op] 26)) b1)
      obtain ⟨r0, r1, r2⟩ := box3r K1.out
      clear b1 CA
      go_wp2_with fail
      refine (CR.out _).mono ?_
      rintro e w2 ⟨rfl, b2⟩
      replace K1 := aside (blk_on K1.out b2)
      replace B1 := aside (bthen B1.out b2)
      obtain ⟨rb, hrb⟩ : ∃ rb, w.heap.size = rb := ⟨_, rfl⟩
      have HRB := aside hrb
      rw [hrb] at K1 ⊢
      clear b2 CR r0 r1 r2 hrb
      go_wp2
      go_loopw [8, 23] (fun v i wr => ∃ j : Nat, i = .int .i64 (j : Int) ∧ j ≤ la ∧ wr.ownsRow w.heap.size 55 5 v (inL ⟨lo, hi, op⟩ (firstE A j)).length (entCells (inL ⟨lo, hi, op⟩ (firstE A j))) ∧ wr.heap[rb]? = some (.cells #[.string lo, .string hi, .bool op] 26 (0, 0)) ∧ Below w.heap.size w wr) (fun _ i _ => la - (intOf i).toNat)
      case atStart => exact ⟨0, rfl, Nat.zero_le _, World.ownsRow_nil _ _ _ _, K1.out, B1.out⟩
      case round =>
        obtain ⟨j, rfl, hj, hO, hK, hB⟩ := hrel
        have HO := aside hO
        have HK := aside hK
        have HB := aside hB
        have hj0 : (0 : Int) ≤ (j : Int) := by omega
        obtain ⟨r0, r1, r2⟩ := box3r hK
        have hrl : rb < wr.heap.size := (Array.getElem?_eq_some_iff.1 hK).1
        clear hO hK hB
        by_cases hlt : (j : Int) < (la : Int)
        · have eA := HA.out.keep HB.out
          rcases eA.2.2 with h0 | ⟨ba, oa, rfl, hba, -⟩
          · omega
          obtain ⟨x, hx⟩ : ∃ x, A j = x := ⟨_, rfl⟩
          obtain ⟨c0, c1, c2, c3, c4⟩ := ents_five eA (by omega) hx
          have HSN := aside (inL_snoc ⟨lo, hi, op⟩ (firstE A j) x)
          rw [← hx, ← firstE_succ, hx] at HSN
          have HLN := aside (show (inL ⟨lo, hi, op⟩ (firstE A j)).length ≤ la from by have h1 := inL_len ⟨lo, hi, op⟩ (firstE A j); rw [firstE_len] at h1; omega)
          have BN := aside (bnew wr (.cells #[.string x.k, .int .i64 x.c, .int .i64 x.n, .string x.v, .bool x.d] 55))
          have KX := aside (heap_alloc_new wr (.cells #[.string x.k, .int .i64 x.c, .int .i64 x.n, .string x.v, .bool x.d] 55))
          clear eA hx
          cases hh : Rg.has ⟨lo, hi, op⟩ x.k
          · have CH := aside (fun W => holds_at hh W)
            rw [hh] at HSN
            simp only [Bool.false_eq_true, if_false, List.append_nil] at HSN
            clear hh
            go_wp2_with fail
            refine (CH.out _).mono ?_
            rintro e w3 ⟨rfl, b3⟩
            have B3 := aside (bthen BN.out b3)
            clear b3 CH c0 c1 c2 c3 c4 r0 r1 r2
            go_wp2
            go_roundw
            case rel => exact ⟨j + 1, by go_num, by omega, by rw [HSN.out]; exact own_on HO.out B3.out, blk_on HK.out B3.out, bthen HB.out B3.out⟩
            case measure => simp [intOf]; omega
          · have CH := aside (fun W => holds_at hh W)
            rw [hh] at HSN
            simp only [if_true] at HSN
            clear hh
            go_wp2_with fail
            refine (CH.out _).mono ?_
            rintro e w3 ⟨rfl, b3⟩
            have B3 := aside (bthen BN.out b3)
            replace KX := aside (blk_on KX.out b3)
            replace HO := aside (own_on HO.out B3.out)
            replace HK := aside (blk_on HK.out B3.out)
            replace HB := aside (bthen HB.out B3.out)
            obtain ⟨⟨x0, x1, x2, x3, x4⟩, -⟩ := box5 KX.out
            clear b3 CH c0 c1 c2 c3 c4 r0 r1 r2
            go_wp2_with (at_builtin; go_loud (refine wpList_plain rfl fun K hK => op_append_ent _ _ rfl w.heap.size _ _ _ (by rfl) (HO.out.alloc _) w3.heap.size 1 x (by rfl) (heap_alloc_new w3 _) (by have := HLN.out; omega) (by have := HB.out.size; simp; omega) ?_); intro g1 cp1 w4 own4 gr4; refine hK _ _ ?_; refine Hid.out ?_)
            refine aside ?_
            have B4 := aside ((HB.out.alloc HB.out.size (.cells #[.string x.k, .int .i64 x.c, .int .i64 x.n, .string x.v, .bool x.d] 55)).grown gr4 (by have := HB.out.size; simp; omega) (fun k e => (HO.out.lt k e).1))
            have O4 := aside own4
            have K4 := aside (show w4.heap[rb]? = some (.cells #[.string lo, .string hi, .bool op] 26 (0, 0)) from by
              rw [gr4.block rb (by have := (Array.getElem?_eq_some_iff.1 HK.out).1; simp; omega) (fun e => by
                obtain ⟨-, cs, h3⟩ := row_blkM HO.out e.symm
                rw [HK.out] at h3; simp at h3)]
              exact blk_on HK.out (bnew _ _))
            clear own4 gr4 x0 x1 x2 x3 x4
            go_wp2
            go_roundw
            case rel => exact ⟨j + 1, by go_num, by omega, by rw [HSN.out, List.length_append]; exact O4.out, K4.out, B4.out⟩
            case measure => simp [intOf]; omega
        · have hjl : j = la := by omega
          subst hjl
          go_wp2
          go_ret2
          exact ⟨_, rfl, HO.out, HB.out⟩
    · have h1' : (r == 0) = false := by simpa using h1
      rw [show ckR A la ⟨lo, hi, op⟩ = r from HCK.out, outL_bad _ h1]
      clear h1
      go_enter Tryd.func11, Tryd.ntmps11
      go_wp2_with fail
      refine CA.out.mono ?_
      rintro e w1 ⟨rfl, b1⟩
      have B1 := aside (bthen (bnew w (.cells #[.string lo, .string hi, .bool op] 26)) b1)
      have K1 := aside (blk_on (heap_alloc_new w (.cells #[.string lo, .string hi, .bool op] 26)) b1)
      obtain ⟨r0, r1, r2⟩ := box3r K1.out
      clear b1 CA
      go_wp2_with fail
      refine (CR.out _).mono ?_
      rintro e w2 ⟨rfl, b2⟩
      replace B1 := aside (bthen B1.out b2)
      clear b2 CR r0 r1 r2
      go_wp2
      go_ret2
      exact ⟨_, rfl, World.ownsRow_nil _ _ _ _, B1.out⟩
  · have h0' : (q == 0) = false := by simpa using h0
    rw [show ckR A la ⟨lo, hi, op⟩ = q from by rw [HCK.out, if_pos h0], outL_bad _ h0]
    clear h0
    go_enter Tryd.func11, Tryd.ntmps11
    go_wp2_with fail
    refine CA.out.mono ?_
    rintro e w1 ⟨rfl, b1⟩
    have B1 := aside (bthen (bnew w (.cells #[.string lo, .string hi, .bool op] 26)) b1)
    clear b1 CA
    go_wp2
    go_ret2
    exact ⟨_, rfl, World.ownsRow_nil _ _ _ _, B1.out⟩
theorem own_emptyE (w : World) (B : Nat) (h : B ≤ w.heap.size) : (w.alloc (.cells #[] 55)).ownsRow B 55 5 (.slice (some ⟨w.heap.size, 0, none⟩) 0 0) 0 (entCells []) := by
  refine ⟨rfl, .inr ⟨w.heap.size, 0, #[], rfl, h, heap_alloc_new w _, Nat.le_refl _, Nat.zero_le _, rfl, rfl⟩⟩
theorem holdsRef_at {lo hi : ByteArray} {op : Bool} {k : ByteArray} {q : Bool} (h : Rg.has ⟨lo, hi, op⟩ k = q) (w : World) : Calls Tryd.prog 62 #[.agg #[.string lo, .string hi, .bool op], .string k] w fun e w' => e = .returned (.bool q) ∧ Below w.heap.size w w' := by
  subst h; exact holdsRef_any lo hi op k w
set_option maxHeartbeats 6400000 in
set_option maxRecDepth 100000 in
theorem rin_any (a : Option Addr) (la ca : Nat) (A : Nat → En) (lo hi : ByteArray) (op : Bool) (w : World) (hA : EntsIn w a la ca A) (hl : la ≤ 2147483648) :
    Calls Tryd.prog 57 #[.slice a la ca, .agg #[.string lo, .string hi, .bool op]] w fun e w' => Says w (ckR A la ⟨lo, hi, op⟩) (outL (ckR A la ⟨lo, hi, op⟩) (inL ⟨lo, hi, op⟩ (firstE A la))) e w' := by
  obtain ⟨q, hq⟩ : ∃ q, ckN A la = q := ⟨_, rfl⟩
  obtain ⟨r, hr⟩ : ∃ r, Rg.chk ⟨lo, hi, op⟩ = r := ⟨_, rfl⟩
  have CA := aside (rchk_any a la ca A _ (hA.keep (bnew w (.cells #[.string lo, .string hi, .bool op] 26))))
  have CR := aside (fun W => checkRef_at hr W)
  rw [hq] at CA
  have HA := aside hA
  have HCK := aside (show ckR A la ⟨lo, hi, op⟩ = if q ≠ 0 then q else r from by unfold ckR; rw [hq, hr])
  have hmx : (la : Int) ≤ 9223372036854775807 := by omega
  clear hA hq hr
  by_cases h0 : q = 0
  · subst h0
    by_cases h1 : r = 0
    · subst h1
      rw [show ckR A la ⟨lo, hi, op⟩ = 0 from HCK.out, outL_ok _ rfl]
      go_enter Tryd.func57, Tryd.ntmps57
      go_wp2_with fail
      refine CA.out.mono ?_
      rintro e w1 ⟨rfl, b1⟩
      have B1 := aside (bthen (bnew w (.cells #[.string lo, .string hi, .bool op] 26)) b1)
      have K1 := aside (blk_on (heap_alloc_new w (.cells #[.string lo, .string hi, .bool op] 26)) b1)
      obtain ⟨r0, r1, r2⟩ := box3r K1.out
      clear b1 CA
      go_wp2_with fail
      refine (CR.out _).mono ?_
      rintro e w2 ⟨rfl, b2⟩
      replace K1 := aside (blk_on K1.out b2)
      replace B1 := aside (bthen B1.out b2)
      obtain ⟨rb, hrb⟩ : ∃ rb, w.heap.size = rb := ⟨_, rfl⟩
      have HRB := aside hrb
      rw [hrb] at K1 ⊢
      clear b2 CR r0 r1 r2 hrb
      have KE := aside (blk_on K1.out (bnew w2 (.cells #[] 55)))
      have BE := aside (bthen B1.out (bnew w2 (.cells #[] 55)))
      have OE := aside (own_emptyE w2 w.heap.size B1.out.size)
      go_wp2
      go_loopw [7, 8] (fun v i wr => ∃ j : Nat, i = .int .i64 (j : Int) ∧ j ≤ la ∧ wr.ownsRow w.heap.size 55 5 v (inL ⟨lo, hi, op⟩ (firstE A j)).length (entCells (inL ⟨lo, hi, op⟩ (firstE A j))) ∧ wr.heap[rb]? = some (.cells #[.string lo, .string hi, .bool op] 26 (0, 0)) ∧ Below w.heap.size w wr) (fun _ i _ => la - (intOf i).toNat)
      case atStart => exact ⟨0, rfl, Nat.zero_le _, OE.out, KE.out, BE.out⟩
      case round =>
        obtain ⟨j, rfl, hj, hO, hK, hB⟩ := hrel
        have HO := aside hO
        have HK := aside hK
        have HB := aside hB
        have hj0 : (0 : Int) ≤ (j : Int) := by omega
        obtain ⟨r0, r1, r2⟩ := box3r hK
        have hrl : rb < wr.heap.size := (Array.getElem?_eq_some_iff.1 hK).1
        clear hO hK hB
        by_cases hlt : (j : Int) < (la : Int)
        · have eA := HA.out.keep HB.out
          rcases eA.2.2 with h0 | ⟨ba, oa, rfl, hba, -⟩
          · omega
          obtain ⟨x, hx⟩ : ∃ x, A j = x := ⟨_, rfl⟩
          obtain ⟨c0, c1, c2, c3, c4⟩ := ents_five eA (by omega) hx
          have HSN := aside (inL_snoc ⟨lo, hi, op⟩ (firstE A j) x)
          rw [← hx, ← firstE_succ, hx] at HSN
          have HLN := aside (show (inL ⟨lo, hi, op⟩ (firstE A j)).length ≤ la from by have h1 := inL_len ⟨lo, hi, op⟩ (firstE A j); rw [firstE_len] at h1; omega)
          have EA := aside eA
          have HXX := aside hx
          clear eA hx
          cases hh : Rg.has ⟨lo, hi, op⟩ x.k
          · have CH := aside (fun W => holdsRef_at hh W)
            rw [hh] at HSN
            simp only [Bool.false_eq_true, if_false, List.append_nil] at HSN
            clear hh
            go_wp2_with fail
            refine wp_region_held_drew (S := fun W => Below wr.heap.size wr W ∧ W.cell? ⟨rb, 0, none⟩ = some (.string lo) ∧ W.cell? ⟨rb, 1, none⟩ = some (.string hi) ∧ W.cell? ⟨rb, 2, none⟩ = some (.bool op) ∧ W.cell? ⟨ba, oa + j * 5, none⟩ = some (.string x.k)) (by kernel_rfl) ⟨(Below.refl _ wr).drew, r0, r1, r2, c0⟩ (fun hHeld => ?_)
            refine wpAnyH_take (i := 0) (v := ?_) rfl (by kernel_rfl) (by kernel_rfl) (by kernel_rfl) (fun _ _ _ h => h) (Or.inl ⟨by rfl, ?_⟩) (by assumption) ?_
            rotate_left
            · intro w hSw
              go_simp
              try with_reducible rfl
            simp only [Act.put, List.getElem_toArray, List.getElem_cons_zero, List.setIfInBounds_toArray, List.set_cons_zero, List.set_cons_succ]
            refine wpAnyH_take (i := 1) (v := ?_) rfl (by kernel_rfl) (by kernel_rfl) (by kernel_rfl) (fun _ _ _ h => h) (Or.inl ⟨by rfl, ?_⟩) (by assumption) ?_
            rotate_left
            · intro w hSw
              go_simp
              try with_reducible rfl
            simp only [Act.put, List.getElem_toArray, List.getElem_cons_zero, List.getElem_cons_succ, List.setIfInBounds_toArray, List.set_cons_zero, List.set_cons_succ]
            refine wpAnyH_take (i := 2) (v := ?_) rfl (by kernel_rfl) (by kernel_rfl) (by kernel_rfl) (fun _ _ _ h => h) (Or.inl ⟨by rfl, ?_⟩) (by assumption) ?_
            rotate_left
            · intro w hSw
              go_simp
              try with_reducible rfl
            simp only [Act.put, List.getElem_toArray, List.getElem_cons_zero, List.getElem_cons_succ, List.setIfInBounds_toArray, List.set_cons_zero, List.set_cons_succ]
            refine wpAnyH_take (i := 3) (v := ?_) rfl (by kernel_rfl) (by kernel_rfl) (by kernel_rfl) (fun _ _ _ h => h) (Or.inl ⟨by rfl, ?_⟩) (by assumption) ?_
            rotate_left
            · intro w hSw
              go_simp
              try with_reducible rfl
            simp only [Act.put, List.getElem_toArray, List.getElem_cons_zero, List.getElem_cons_succ, List.setIfInBounds_toArray, List.set_cons_zero, List.set_cons_succ]
            refine wpAnyH_take (i := 4) (v := ?_) rfl (by kernel_rfl) (by kernel_rfl) (by kernel_rfl) (fun _ _ _ h => h) (Or.inl ⟨by rfl, ?_⟩) (by assumption) ?_
            rotate_left
            · intro w hSw
              go_simp
              try with_reducible rfl
            simp only [Act.put, List.getElem_toArray, List.getElem_cons_zero, List.getElem_cons_succ, List.setIfInBounds_toArray, List.set_cons_zero, List.set_cons_succ]
            refine wpAnyH_take (i := 5) (v := ?_) rfl (by kernel_rfl) (by kernel_rfl) (by kernel_rfl) (fun _ _ _ h => h) (Or.inl ⟨by rfl, ?_⟩) (by assumption) ?_
            rotate_left
            · intro w hSw
              go_simp
              try with_reducible rfl
            simp only [Act.put, List.getElem_toArray, List.getElem_cons_zero, List.getElem_cons_succ, List.setIfInBounds_toArray, List.set_cons_zero, List.set_cons_succ]
            refine wpAnyH_ready (rs := [6]) (by kernel_rfl) (by simp) ?_
            refine AllReadyH.cons rfl (fun K hK => ?_) AllReadyH.nil
            go_simp
            refine (CH.out _).mono ?_
            rintro e w9 ⟨rfl, bb⟩
            refine hK.out _ _ (⟨hHeld.1.trans (bb.mono hHeld.1.size), cell_in hHeld.2.1 bb, cell_in hHeld.2.2.1 bb, cell_in hHeld.2.2.2.1 bb, cell_in hHeld.2.2.2.2 bb⟩) (fun hHeld => ?_)
            clear hK K 
            refine wpAnyH_done (by kernel_rfl) ?_ _
            have B3 := aside hHeld.1
            clear hHeld CH c0 c1 c2 c3 c4 r0 r1 r2
            go_wp2
            go_roundw
            case rel => exact ⟨j + 1, by go_num, by omega, by rw [HSN.out]; exact own_on HO.out B3.out, blk_on HK.out B3.out, bthen HB.out B3.out⟩
            case measure => simp [intOf]; omega
          · have CH := aside (fun W => holdsRef_at hh W)
            rw [hh] at HSN
            simp only [if_true] at HSN
            clear hh
            go_wp2_with fail
            refine wp_region_held_drew (S := fun W => Below wr.heap.size wr W ∧ W.cell? ⟨rb, 0, none⟩ = some (.string lo) ∧ W.cell? ⟨rb, 1, none⟩ = some (.string hi) ∧ W.cell? ⟨rb, 2, none⟩ = some (.bool op) ∧ W.cell? ⟨ba, oa + j * 5, none⟩ = some (.string x.k)) (by kernel_rfl) ⟨(Below.refl _ wr).drew, r0, r1, r2, c0⟩ (fun hHeld => ?_)
            refine wpAnyH_take (i := 0) (v := ?_) rfl (by kernel_rfl) (by kernel_rfl) (by kernel_rfl) (fun _ _ _ h => h) (Or.inl ⟨by rfl, ?_⟩) (by assumption) ?_
            rotate_left
            · intro w hSw
              go_simp
              try with_reducible rfl
            simp only [Act.put, List.getElem_toArray, List.getElem_cons_zero, List.setIfInBounds_toArray, List.set_cons_zero, List.set_cons_succ]
            refine wpAnyH_take (i := 1) (v := ?_) rfl (by kernel_rfl) (by kernel_rfl) (by kernel_rfl) (fun _ _ _ h => h) (Or.inl ⟨by rfl, ?_⟩) (by assumption) ?_
            rotate_left
            · intro w hSw
              go_simp
              try with_reducible rfl
            simp only [Act.put, List.getElem_toArray, List.getElem_cons_zero, List.getElem_cons_succ, List.setIfInBounds_toArray, List.set_cons_zero, List.set_cons_succ]
            refine wpAnyH_take (i := 2) (v := ?_) rfl (by kernel_rfl) (by kernel_rfl) (by kernel_rfl) (fun _ _ _ h => h) (Or.inl ⟨by rfl, ?_⟩) (by assumption) ?_
            rotate_left
            · intro w hSw
              go_simp
              try with_reducible rfl
            simp only [Act.put, List.getElem_toArray, List.getElem_cons_zero, List.getElem_cons_succ, List.setIfInBounds_toArray, List.set_cons_zero, List.set_cons_succ]
            refine wpAnyH_take (i := 3) (v := ?_) rfl (by kernel_rfl) (by kernel_rfl) (by kernel_rfl) (fun _ _ _ h => h) (Or.inl ⟨by rfl, ?_⟩) (by assumption) ?_
            rotate_left
            · intro w hSw
              go_simp
              try with_reducible rfl
            simp only [Act.put, List.getElem_toArray, List.getElem_cons_zero, List.getElem_cons_succ, List.setIfInBounds_toArray, List.set_cons_zero, List.set_cons_succ]
            refine wpAnyH_take (i := 4) (v := ?_) rfl (by kernel_rfl) (by kernel_rfl) (by kernel_rfl) (fun _ _ _ h => h) (Or.inl ⟨by rfl, ?_⟩) (by assumption) ?_
            rotate_left
            · intro w hSw
              go_simp
              try with_reducible rfl
            simp only [Act.put, List.getElem_toArray, List.getElem_cons_zero, List.getElem_cons_succ, List.setIfInBounds_toArray, List.set_cons_zero, List.set_cons_succ]
            refine wpAnyH_take (i := 5) (v := ?_) rfl (by kernel_rfl) (by kernel_rfl) (by kernel_rfl) (fun _ _ _ h => h) (Or.inl ⟨by rfl, ?_⟩) (by assumption) ?_
            rotate_left
            · intro w hSw
              go_simp
              try with_reducible rfl
            simp only [Act.put, List.getElem_toArray, List.getElem_cons_zero, List.getElem_cons_succ, List.setIfInBounds_toArray, List.set_cons_zero, List.set_cons_succ]
            refine wpAnyH_ready (rs := [6]) (by kernel_rfl) (by simp) ?_
            refine AllReadyH.cons rfl (fun K hK => ?_) AllReadyH.nil
            go_simp
            refine (CH.out _).mono ?_
            rintro e w9 ⟨rfl, bb⟩
            refine hK.out _ _ (⟨hHeld.1.trans (bb.mono hHeld.1.size), cell_in hHeld.2.1 bb, cell_in hHeld.2.2.1 bb, cell_in hHeld.2.2.2.1 bb, cell_in hHeld.2.2.2.2 bb⟩) (fun hHeld => ?_)
            clear hK K 
            refine wpAnyH_done (by kernel_rfl) ?_ _
            have B3 := aside hHeld.1
            have HX5 := aside (fun W (bb : Below wr.heap.size wr W) => ents_five (EA.out.keep bb) (by omega) HXX.out)
            obtain ⟨x0, x1, x2, x3, x4⟩ := HX5.out _ B3.out
            generalize w9 = w3 at *
            replace HO := aside (own_on HO.out B3.out)
            replace HK := aside (blk_on HK.out B3.out)
            replace HB := aside (bthen HB.out B3.out)
            clear hHeld CH c0 c1 c2 c3 c4 r0 r1 r2
            go_wp2_with (at_builtin; go_loud (refine wpList_plain rfl fun K hK => op_append_ent _ _ rfl w.heap.size _ _ _ (by rfl) (HO.out.alloc _) w3.heap.size 1 x (by rfl) (heap_alloc_new w3 _) (by have := HLN.out; omega) (by have := HB.out.size; simp; omega) ?_); intro g1 cp1 w4 own4 gr4; refine hK _ _ ?_; refine Hid.out ?_)
            refine aside ?_
            have B4 := aside ((HB.out.alloc HB.out.size (.cells #[.string x.k, .int .i64 x.c, .int .i64 x.n, .string x.v, .bool x.d] 55)).grown gr4 (by have := HB.out.size; simp; omega) (fun k e => (HO.out.lt k e).1))
            have O4 := aside own4
            have K4 := aside (show w4.heap[rb]? = some (.cells #[.string lo, .string hi, .bool op] 26 (0, 0)) from by
              rw [gr4.block rb (by have := (Array.getElem?_eq_some_iff.1 HK.out).1; simp; omega) (fun e => by
                obtain ⟨-, cs, h3⟩ := row_blkM HO.out e.symm
                rw [HK.out] at h3; simp at h3)]
              exact blk_on HK.out (bnew _ _))
            clear own4 gr4 x0 x1 x2 x3 x4
            go_wp2
            go_roundw
            case rel => exact ⟨j + 1, by go_num, by omega, by rw [HSN.out, List.length_append]; exact O4.out, K4.out, B4.out⟩
            case measure => simp [intOf]; omega
        · have hjl : j = la := by omega
          subst hjl
          go_wp2
          go_ret2
          exact ⟨_, rfl, HO.out, HB.out⟩
    · have h1' : (r == 0) = false := by simpa using h1
      rw [show ckR A la ⟨lo, hi, op⟩ = r from HCK.out, outL_bad _ h1]
      clear h1
      go_enter Tryd.func57, Tryd.ntmps57
      go_wp2_with fail
      refine CA.out.mono ?_
      rintro e w1 ⟨rfl, b1⟩
      have B1 := aside (bthen (bnew w (.cells #[.string lo, .string hi, .bool op] 26)) b1)
      have K1 := aside (blk_on (heap_alloc_new w (.cells #[.string lo, .string hi, .bool op] 26)) b1)
      obtain ⟨r0, r1, r2⟩ := box3r K1.out
      clear b1 CA
      go_wp2_with fail
      refine (CR.out _).mono ?_
      rintro e w2 ⟨rfl, b2⟩
      replace B1 := aside (bthen B1.out b2)
      clear b2 CR r0 r1 r2
      go_wp2
      go_ret2
      exact ⟨_, rfl, World.ownsRow_nil _ _ _ _, B1.out⟩
  · have h0' : (q == 0) = false := by simpa using h0
    rw [show ckR A la ⟨lo, hi, op⟩ = q from by rw [HCK.out, if_pos h0], outL_bad _ h0]
    clear h0
    go_enter Tryd.func57, Tryd.ntmps57
    go_wp2_with fail
    refine CA.out.mono ?_
    rintro e w1 ⟨rfl, b1⟩
    have B1 := aside (bthen (bnew w (.cells #[.string lo, .string hi, .bool op] 26)) b1)
    clear b1 CA
    go_wp2
    go_ret2
    exact ⟨_, rfl, World.ownsRow_nil _ _ _ _, B1.out⟩
end Go.Proofs.YtfkdhambbpkmpaaDoor
namespace Go.Proofs.YtfkdhambbpkmpaaDoor
open Go.RowKit Go.Shelf
set_option linter.unusedVariables false
attribute [local go_sem] Oper.semAt_some
/-- The newer ones, of the pairs so far. -/
def mxP (l : List (En × En)) : List En := l.map (fun p => En.best p.1 p.2)
theorem mxP_len (l : List (En × En)) : (mxP l).length ≤ l.length := by unfold mxP; rw [List.length_map]; exact Nat.le_refl _
theorem mxP_prs (a b : List En) : mxP (prs a b) = mxL a b := rfl
set_option maxHeartbeats 8000000 in
set_option maxRecDepth 100000 in
theorem mmax_any (a : Option Addr) (la ca : Nat) (A : Nat → En) (b : Option Addr) (lb cb : Nat) (B : Nat → En) (w : World) (hA : EntsIn w a la ca A) (hB : EntsIn w b lb cb B) (hl : la + lb ≤ 2147483648) :
    Calls Tryd.prog 16 #[.slice a la ca, .slice b lb cb] w fun r w' => Says w (ck2 A la B lb) (outL (ck2 A la B lb) (mxP (prs (firstE A la) (firstE B lb)))) r w' := by
  obtain ⟨q, hq⟩ : ∃ q, ck2 A la B lb = q := ⟨_, rfl⟩
  have CK := aside (mchk2_any a la ca A b lb cb B w hA hB)
  rw [hq] at CK ⊢
  have HA := aside hA
  have HBB := aside hB
  have HL := aside hl
  clear hA hB hl hq
  by_cases h0 : q = 0
  · subst h0
    rw [outL_ok _ rfl]
    refine (callsIn_wide (n := 5)).1 ?_
    refine callsIn_of_wp_marks Tryd.func16 rfl trivial ?_ rfl
    simp only [Tryd.ntmps16, List.size_toArray, List.length_cons, List.length_nil, Nat.reduceAdd, Nat.reduceSub, Array.replicate_succ, Array.replicate_zero, List.push_toArray, List.append_toArray, List.nil_append, List.cons_append]
    gi_wp2_with fail
    refine ⟨trivial, ?_⟩
    refine (callsIn_wide.2 CK.out).mono ?_
    rintro e w1 ⟨rfl, b1⟩
    have B1 := aside b1
    clear b1 CK
    gi_wp2_with fail
    refine ⟨trivial, ?_⟩
    refine (callsIn_wide.2 (side_any _ _ _ _ _ _ _)).mono ?_
    rintro e w2 ⟨rfl, rfl⟩
    gi_wp2_with fail
    have B2 := aside (bthen B1.out (bnew w1 (.cells #[.slice none 0 0] 22)))
    have KV := aside (heap_alloc_new w1 (.cells #[.slice none 0 0] 22))
    have SD2 := aside (side_sd (HA.out.keep B2.out) (HBB.out.keep B2.out))
    have B3 := aside (bthen B2.out (bthen (bnew (w1.alloc (.cells #[.slice none 0 0] 22)) (.cells #[.slice a la ca] 22)) (bnew _ (.cells #[.slice b lb cb] 22))))
    have KV3 := aside (blk_on KV.out (bthen (bnew (w1.alloc (.cells #[.slice none 0 0] 22)) (.cells #[.slice a la ca] 22)) (bnew _ (.cells #[.slice b lb cb] 22))))
    obtain ⟨vb, hvb⟩ : ∃ vb, w1.heap.size = vb := ⟨_, rfl⟩
    obtain ⟨ba, hba⟩ : ∃ ba, (w1.alloc (.cells #[.slice none 0 0] 22)).heap.size = ba := ⟨_, rfl⟩
    have hbv : ba = vb + 1 := by rw [← hba, ← hvb]; simp
    have HVB := aside (show w.heap.size ≤ vb from by rw [← hvb]; exact B1.out.size)
    rw [World.size_alloc] at hba
    rw [World.size_alloc, hba] at SD2
    rw [hba]
    rw [hvb] at KV3 ⊢
    clear KV hvb hba B1
    generalize ((w1.alloc (.cells #[.slice none 0 0] 22)).alloc (.cells #[.slice a la ca] 22)).alloc (.cells #[.slice b lb cb] 22) = V at *
    have I0 := aside (show LpC w vb 22 55 5 (mxP (([] : List (En × En)))).length (entCells (mxP (([] : List (En × En))))) ba (ba + 1) a la ca A b lb cb B V from ⟨⟨.slice none 0 0, KV3.out, ⟨rfl, .inl ⟨rfl, rfl⟩⟩⟩, B3.out, SD2.out⟩)
    have HVV := aside (show w.heap.size ≤ V.heap.size from B3.out.size)
    have HNE := aside (show ba ≠ vb ∧ ba + 1 ≠ vb from by omega)
    clear KV3 B3 B2 hbv
    have ownI : OwnFrom V.heap.size (fun (pre : List (En × En)) X => LpC w vb 22 55 5 (mxP (pre)).length (entCells (mxP (pre))) ba (ba + 1) a la ca A b lb cb B X) := fun s A Y row hs hg hr => hs.own HVV.out hg hr
    refine rangeO rfl (enters_of Tryd.func49 (by kernel_rfl) rfl) (side_seq SD2.out) KpS.t (fun W l o o' _ h ho => KpS.b W l o o' h ho) (Below.refl _ _) (fun _ => rfl)
      (fun (pre : List (En × En)) X => LpC w vb 22 55 5 (mxP (pre)).length (entCells (mxP (pre))) ba (ba + 1) a la ca A b lb cb B X) (fun _ _ _ => False) ownI (fun _ _ _ _ _ h => h.elim) I0.out
      (fun x a' X => ∃ eb : Nat, a' = ⟨#[.slice a la ca, .slice b lb cb, undef, undef, .slice none 0 0, .int .i64 0, .int .i64 0, .pointer (some ⟨vb, 0, none⟩), .pointer (some ⟨eb, 0, none⟩), .pointer (some ⟨eb + 1, 0, none⟩), .slice a la ca, .slice b lb cb, .int .i64 0, .int .i64 0, .bool false, undef, .slice a la ca, .slice b lb cb, .func (.func 49) #[] #[.pointer (some ⟨ba, 0, none⟩), .pointer (some ⟨ba + 1, 0, none⟩)], .agg #[.string x.1.k, .int .i64 x.1.c, .int .i64 x.1.n, .string x.1.v, .bool x.1.d], .agg #[.string x.2.k, .int .i64 x.2.c, .int .i64 x.2.n, .string x.2.v, .bool x.2.d], undef, undef, undef, undef, undef, undef, undef], []⟩ ∧ X.heap[eb]? = some (.cells #[.string x.1.k, .int .i64 x.1.c, .int .i64 x.1.n, .string x.1.v, .bool x.1.d] 55 (0, 0)) ∧ X.heap[eb + 1]? = some (.cells #[.string x.2.k, .int .i64 x.2.c, .int .i64 x.2.n, .string x.2.v, .bool x.2.d] 55 (0, 0)))
      (fun x a' _ A Y row hs hg hr => by
        obtain ⟨eb, h1, h2, h3⟩ := hs
        exact ⟨eb, h1, cells_ownM h2 hg (fun r e => (hr r e).2), cells_ownM h3 hg (fun r e => (hr r e).2)⟩) ?assign ?body ?done ?stop
    case assign =>
      intro l' pre x X K hi hK
      dsimp only [encP]
      gi_wp2
      have bb := bthen (bnew X (.cells #[.string x.1.k, .int .i64 x.1.c, .int .i64 x.1.n, .string x.1.v, .bool x.1.d] 55)) (bnew _ (.cells #[.string x.2.k, .int .i64 x.2.c, .int .i64 x.2.n, .string x.2.v, .bool x.2.d] 55))
      have k2 := heap_alloc_new (X.alloc (.cells #[.string x.1.k, .int .i64 x.1.c, .int .i64 x.1.n, .string x.1.v, .bool x.1.d] 55)) (.cells #[.string x.2.k, .int .i64 x.2.c, .int .i64 x.2.n, .string x.2.v, .bool x.2.d] 55)
      rw [World.size_alloc] at k2
      exact hK _ _ (kf_below bb) (fun s => s.keep bb) (hi.keep bb) ⟨X.heap.size, rfl, blk_on (heap_alloc_new X _) (bnew _ _), k2⟩
    case body =>
      rintro l' pre ⟨x, y⟩ a' X hlp ⟨eb, rfl, he, hf⟩ hlen
      dsimp only at he hf ⊢
      have HLP := aside hlp
      have HE := aside he
      have HF := aside hf
      have HLN := aside (show (mxP (pre)).length ≤ 2147483648 from by have h1 := prs_len (firstE A la) (firstE B lb); rw [firstE_len, firstE_len] at h1; have h2 := HL.out; have h3 : (mxP (pre)).length ≤ pre.length := mxP_len pre; omega)
      clear hlp he hf hlen
      obtain ⟨v, hv, ho⟩ := HLP.out.lst.ex
      have HV := aside hv
      have HO := aside ho
      obtain ⟨t, ht⟩ : ∃ t, En.best x y = t := ⟨_, rfl⟩
      have CN := aside (fun W => best_en x y t W ht)
      have HSN := aside (show mxP (pre ++ [(x, y)]) = mxP pre ++ [t] from by rw [← ht]; simp [mxP])
      clear hv ho ht
      gi_wp2_with fail
      have bd := (Below.refl X.heap.size X).drew
      have BX := aside bd
      replace HLP := aside (HLP.out.keep bd)
      replace HE := aside (blk_on HE.out bd)
      replace HF := aside (blk_on HF.out bd)
      replace HV := aside (blk_on HV.out bd)
      replace HO := aside (own_on HO.out bd)
      clear bd
      refine wpIn_region_until (z := 5) (S := fun Y => Y.cell? ⟨vb, 0, none⟩ = some v ∧ (Y.cell? ⟨eb, 0, none⟩ = some (.string x.k) ∧ Y.cell? ⟨eb, 1, none⟩ = some (.int .i64 x.c) ∧ Y.cell? ⟨eb, 2, none⟩ = some (.int .i64 x.n) ∧ Y.cell? ⟨eb, 3, none⟩ = some (.string x.v) ∧ Y.cell? ⟨eb, 4, none⟩ = some (.bool x.d)) ∧ Y.cell? ⟨(eb + 1), 0, none⟩ = some (.string y.k) ∧ Y.cell? ⟨(eb + 1), 1, none⟩ = some (.int .i64 y.c) ∧ Y.cell? ⟨(eb + 1), 2, none⟩ = some (.int .i64 y.n) ∧ Y.cell? ⟨(eb + 1), 3, none⟩ = some (.string y.v) ∧ Y.cell? ⟨(eb + 1), 4, none⟩ = some (.bool y.d)) (by kernel_rfl) (by kernel_rfl) (fun ⟨_, _, h⟩ => h) ⟨cell_one HV.out, (box5 HE.out).1, (box5 HF.out).1⟩ (fun hHeld => ?_)
      generalize X.drew = X0 at *
      refine Until.take (i := 0) (v := ?_) [5] rfl (by kernel_rfl) (by kernel_rfl) (by kernel_rfl) (by kernel_rfl) (by rfl) (by rfl) (by kernel_rfl) (fun _ _ _ h => h) (Or.inl ⟨by rfl, ?_⟩) (by assumption) ?_
      rotate_left
      · intro w hSw
        go_simp
        try with_reducible rfl
      simp only [Act.put, List.getElem_toArray, List.getElem_cons_zero, List.setIfInBounds_toArray, List.set_cons_zero, List.set_cons_succ]
      refine Until.take (i := 1) (v := ?_) [3, 4, 5] rfl (by kernel_rfl) (by kernel_rfl) (by kernel_rfl) (by kernel_rfl) (by rfl) (by rfl) (by kernel_rfl) (fun _ _ _ h => h) (Or.inl ⟨by rfl, ?_⟩) (by assumption) ?_
      rotate_left
      · intro w hSw
        go_simp
        try with_reducible rfl
      simp only [Act.put, List.getElem_toArray, List.getElem_cons_zero, List.getElem_cons_succ, List.setIfInBounds_toArray, List.set_cons_zero, List.set_cons_succ]
      refine Until.take (i := 2) (v := ?_) [3, 4, 5] rfl (by kernel_rfl) (by kernel_rfl) (by kernel_rfl) (by kernel_rfl) (by rfl) (by rfl) (by kernel_rfl) (fun _ _ _ h => h) (Or.inl ⟨by rfl, ?_⟩) (by assumption) ?_
      rotate_left
      · intro w hSw
        go_simp
        try with_reducible rfl
      simp only [Act.put, List.getElem_toArray, List.getElem_cons_zero, List.getElem_cons_succ, List.setIfInBounds_toArray, List.set_cons_zero, List.set_cons_succ]
      refine Until.step (i := 3) (by kernel_rfl) rfl (by rfl) (fun K' hK' => ?_)
      go_simp
      refine (CN.out _).mono ?_
      rintro e X1 ⟨rfl, b1⟩
      replace BX := aside (bthen BX.out b1)
      replace HLP := aside (HLP.out.keep b1)
      replace HE := aside (blk_on HE.out b1)
      replace HF := aside (blk_on HF.out b1)
      replace HV := aside (blk_on HV.out b1)
      replace HO := aside (own_on HO.out b1)
      clear b1 CN
      refine hK'.out _ _ ⟨cell_one HV.out, (box5 HE.out).1, (box5 HF.out).1⟩ (fun hHeld => ?_)
      clear hK' K'
      refine Until.step (i := 4) (by kernel_rfl) rfl (by rfl) (fun K' hK' => ?_)
      go_simp
      have bN := bnew X1 (.cells #[.string t.k, .int .i64 t.c, .int .i64 t.n, .string t.v, .bool t.d] 55)
      refine hK'.out _ _ ⟨cell_one (blk_on HV.out bN), (box5 (blk_on HE.out bN)).1, (box5 (blk_on HF.out bN)).1⟩ (fun hHeld => ?_)
      clear hK' K' bN
      refine Until.last (by kernel_rfl) rfl (fun K' hK' => ?_)
      rw [if_pos (by kernel_rfl)]
      refine op_append_ent _ _ rfl w.heap.size (mxP pre).length v (mxP pre) (by rfl) (HO.out.alloc _) X1.heap.size 1 t (by rfl) (heap_alloc_new X1 _) (by have := HLN.out; omega) (by have := HLP.out.below.size; simp; omega) ?_
      intro g1 cp1 X2 own1 gr1
      refine hK'.out _ _ ?_
      have HBX := aside HLP.out.below
      have ST := aside (LpC.add (C := V.heap.size) HA.out HBB.out (by decide) (by decide) HVB.out HNE.out.1 HNE.out.2 HBX.out HLP.out.sd HV.out HO.out (by rw [entCells_append, show entCells [t] = entVals t from by simp [entCells]] at own1; exact own1) gr1)
      have v1 := cell_one ST.out.1
      have z1 := frozen_one ST.out.1
      clear hK' K' own1 gr1 hHeld
      refine wpAny_of_held (S := fun _ => True) _ _ _ _ ?_
      have hHeld : True := trivial
      refine wpAnyH_ready (rs := [6]) (by kernel_rfl) (by simp) ?_
      refine AllReadyH.cons rfl (fun K hK => ?_) AllReadyH.nil
      go_simp
      refine hK.out _ _ (trivial) (fun hHeld => ?_)
      clear hK K 
      refine wpAnyH_done (by kernel_rfl) ?_ _
      gi_wp2
      exact ⟨(kf_below BX.out).trans ST.out.2.2, fun _ => ST.out.2.1.sd, by dsimp only; rw [HSN.out, List.length_append, entCells_append, show entCells [t] = entVals t from by simp [entCells]]; exact ST.out.2.1⟩
    case done =>
      rintro D xs X hD rfl hlp hK
      obtain ⟨v, hv, ho⟩ := hlp.lst.ex
      have v0 := cell_one hv
      have FO := aside (ownsRow_ownM ho (grownBy_putObj' X D (.deferred none)) (fun r e => by cases e; exact ⟨_, hK, rfl⟩))
      have FB := aside (ownFrom_below (β := Unit) (Nat.le_refl w.heap.size) HVV.out () X _ (some D) hlp.below (grownBy_putObj' X D (.deferred none)) (fun r e => by cases e; exact ⟨hD, _, hK, rfl⟩))
      clear hlp hv ho
      gi_wp2
      refine ⟨by simp, .inl ⟨_, _, rfl, run_takeDeferred hK, ?_⟩⟩
      exact ⟨.tuple #[v, .int .i64 0], by simp [results, Tryd.f16, go_sem], ⟨v, rfl, FO.out, FB.out⟩⟩
    case stop =>
      rintro D c pre X hD _ h
      exact h.elim
  · rw [outL_bad _ h0]
    have hqb : (q == 0) = false := by simpa using h0
    have H0 := aside h0
    clear h0
    refine (callsIn_wide (n := 5)).1 ?_
    refine callsIn_of_wp_marks Tryd.func16 rfl trivial ?_ rfl
    simp only [Tryd.ntmps16, List.size_toArray, List.length_cons, List.length_nil, Nat.reduceAdd, Nat.reduceSub, Array.replicate_succ, Array.replicate_zero, List.push_toArray, List.append_toArray, List.nil_append, List.cons_append]
    gi_wp2_with fail
    refine ⟨trivial, ?_⟩
    refine (callsIn_wide.2 CK.out).mono ?_
    rintro e w1 ⟨rfl, b1⟩
    have B1 := aside b1
    clear b1 CK
    gi_wp2
    exact ⟨.tuple #[.slice none 0 0, .int .i64 q], by simp [results, Tryd.f16, go_sem], ⟨_, rfl, ⟨rfl, .inl ⟨rfl, rfl⟩⟩, B1.out⟩⟩
end Go.Proofs.YtfkdhambbpkmpaaDoor

/-
  In, the code's: what of a list is in a range.
  Two maps, and the newest of both: plain.
  Names of sessions: which may be, how they compare; the code's calls and the document's own, each as a plain function.
-/
import Derived.Test.YtoflalflacopdaaDoorBm21
import Derived.Test.YtoflalflacopdaaDoorBm11
import Derived.Deep.RegionHeld
import Derived.Test.YtoflalflacopdaaDoorBm15
namespace Go.Proofs.YtoflalflacopdaaDoor
open Go.RowKit
set_option linter.unusedVariables false
/-- The entries in a range. -/
def inL (r : Rg) (l : List En) : List En := l.filter (fun e => Rg.has r e.k)
theorem inL_snoc (r : Rg) (l : List En) (x : En) : inL r (l ++ [x]) = inL r l ++ (if Rg.has r x.k then [x] else []) := by
  unfold inL
  rw [List.filter_append]
  congr 1
  cases h : Rg.has r x.k <;> simp [h]
theorem inL_len (r : Rg) (l : List En) : (inL r l).length ≤ l.length := List.length_filter_le _ _
/-- What is wrong first with a list and a range. -/
def ckR (A : Nat → En) (la : Nat) (r : Rg) : Int := if ckN A la ≠ 0 then ckN A la else r.chk
theorem box3r {w : World} {i : Nat} {a b c : Value} {T : TypeId} (h : w.heap[i]? = some (.cells #[a, b, c] T (0, 0))) : w.cell? ⟨i, 0, none⟩ = some a ∧ w.cell? ⟨i, 1, none⟩ = some b ∧ w.cell? ⟨i, 2, none⟩ = some c :=
  ⟨by rw [cell_of_row _ _ 0 _ _ _ h]; rfl, by rw [cell_of_row _ _ 1 _ _ _ h]; rfl, by rw [cell_of_row _ _ 2 _ _ _ h]; rfl⟩
theorem holds_at {lo hi : ByteArray} {op : Bool} {k : ByteArray} {q : Bool} (h : Rg.has ⟨lo, hi, op⟩ k = q) (w : World) : Calls Tryd.prog 60 #[.agg #[.string lo, .string hi, .bool op], .string k] w fun e w' => e = .returned (.bool q) ∧ Below w.heap.size w w' := by
  subst h; exact holds_any lo hi op k w
set_option maxHeartbeats 6400000 in
set_option maxRecDepth 100000 in
theorem min_any (a : Option Addr) (la ca : Nat) (A : Nat → En) (lo hi : ByteArray) (op : Bool) (w : World) (hA : EntsIn w a la ca A) (hl : la ≤ 2147483648) :
    Calls Tryd.prog 25 #[.slice a la ca, .agg #[.string lo, .string hi, .bool op]] w fun e w' => Says w (ckR A la ⟨lo, hi, op⟩) (outL (ckR A la ⟨lo, hi, op⟩) (inL ⟨lo, hi, op⟩ (firstE A la))) e w' := by
  obtain ⟨q, hq⟩ : ∃ q, ckN A la = q := ⟨_, rfl⟩
  obtain ⟨r, hr⟩ : ∃ r, Rg.chk ⟨lo, hi, op⟩ = r := ⟨_, rfl⟩
  have CA := aside (mchk_any a la ca A _ (hA.keep (bnew w (.cells #[.string lo, .string hi, .bool op] 24))))
  have CR := aside (fun W => check_at hr W)
  rw [hq] at CA
  have HA := aside hA
  have HCK := aside (show ckR A la ⟨lo, hi, op⟩ = if q ≠ 0 then q else r from by unfold ckR; rw [hq, hr])
  have hmx : (la : Int) ≤ 9223372036854775807 := by omega
  clear hA hq hr
  by_cases h0 : q = 0
  · subst h0
    by_cases h1 : r = 0
    · subst h1
      rw [show ckR A la ⟨lo, hi, op⟩ = 0 from HCK.out, outL_ok _ rfl]
      go_enter Tryd.func25, Tryd.ntmps25
      go_wp2_with fail
      refine CA.out.mono ?_
      rintro e w1 ⟨rfl, b1⟩
      have B1 := aside (bthen (bnew w (.cells #[.string lo, .string hi, .bool op] 24)) b1)
      have K1 := aside (blk_on (heap_alloc_new w (.cells #[.string lo, .string hi, .bool op] 24)) b1)
      obtain ⟨r0, r1, r2⟩ := box3r K1.out
      clear b1 CA
      go_wp2_with fail
      refine (CR.out _).mono ?_
      rintro e w2 ⟨rfl, b2⟩
      replace K1 := aside (blk_on K1.out b2)
      replace B1 := aside (bthen B1.out b2)
      obtain ⟨rb, hrb⟩ : ∃ rb, w.heap.size = rb := ⟨_, rfl⟩
      have HRB := aside hrb
      rw [hrb] at K1 ⊢
      clear b2 CR r0 r1 r2 hrb
      go_wp2
      go_loopw [8, 23] (fun v i wr => ∃ j : Nat, i = .int .i64 (j : Int) ∧ j ≤ la ∧ wr.ownsRow w.heap.size 33 5 v (inL ⟨lo, hi, op⟩ (firstE A j)).length (entCells (inL ⟨lo, hi, op⟩ (firstE A j))) ∧ wr.heap[rb]? = some (.cells #[.string lo, .string hi, .bool op] 24 (0, 0)) ∧ Below w.heap.size w wr) (fun _ i _ => la - (intOf i).toNat)
      case atStart => exact ⟨0, rfl, Nat.zero_le _, World.ownsRow_nil _ _ _ _, K1.out, B1.out⟩
      case round =>
        obtain ⟨j, rfl, hj, hO, hK, hB⟩ := hrel
        have HO := aside hO
        have HK := aside hK
        have HB := aside hB
        have hj0 : (0 : Int) ≤ (j : Int) := by omega
        obtain ⟨r0, r1, r2⟩ := box3r hK
        have hrl : rb < wr.heap.size := (Array.getElem?_eq_some_iff.1 hK).1
        clear hO hK hB
        by_cases hlt : (j : Int) < (la : Int)
        · have eA := HA.out.keep HB.out
          rcases eA.2.2 with h0 | ⟨ba, oa, rfl, hba, -⟩
          · omega
          obtain ⟨x, hx⟩ : ∃ x, A j = x := ⟨_, rfl⟩
          obtain ⟨c0, c1, c2, c3, c4⟩ := ents_five eA (by omega) hx
          have HSN := aside (inL_snoc ⟨lo, hi, op⟩ (firstE A j) x)
          rw [← hx, ← firstE_succ, hx] at HSN
          have HLN := aside (show (inL ⟨lo, hi, op⟩ (firstE A j)).length ≤ la from by have h1 := inL_len ⟨lo, hi, op⟩ (firstE A j); rw [firstE_len] at h1; omega)
          have BN := aside (bnew wr (.cells #[.string x.k, .int .i64 x.c, .int .i64 x.n, .string x.v, .bool x.d] 33))
          have KX := aside (heap_alloc_new wr (.cells #[.string x.k, .int .i64 x.c, .int .i64 x.n, .string x.v, .bool x.d] 33))
          clear eA hx
          cases hh : Rg.has ⟨lo, hi, op⟩ x.k
          · have CH := aside (fun W => holds_at hh W)
            rw [hh] at HSN
            simp only [Bool.false_eq_true, if_false, List.append_nil] at HSN
            clear hh
            go_wp2_with fail
            refine (CH.out _).mono ?_
            rintro e w3 ⟨rfl, b3⟩
            have B3 := aside (bthen BN.out b3)
            clear b3 CH c0 c1 c2 c3 c4 r0 r1 r2
            go_wp2
            go_roundw
            case rel => exact ⟨j + 1, by go_num, by omega, by rw [HSN.out]; exact own_on HO.out B3.out, blk_on HK.out B3.out, bthen HB.out B3.out⟩
            case measure => simp [intOf]; omega
          · have CH := aside (fun W => holds_at hh W)
            rw [hh] at HSN
            simp only [if_true] at HSN
            clear hh
            go_wp2_with fail
            refine (CH.out _).mono ?_
            rintro e w3 ⟨rfl, b3⟩
            have B3 := aside (bthen BN.out b3)
            replace KX := aside (blk_on KX.out b3)
            replace HO := aside (own_on HO.out B3.out)
            replace HK := aside (blk_on HK.out B3.out)
            replace HB := aside (bthen HB.out B3.out)
            obtain ⟨⟨x0, x1, x2, x3, x4⟩, -⟩ := box5 KX.out
            clear b3 CH c0 c1 c2 c3 c4 r0 r1 r2
            go_wp2_with (at_builtin; go_loud (refine wpList_plain rfl fun K hK => op_append_ent _ _ rfl w.heap.size _ _ _ (by rfl) (HO.out.alloc _) w3.heap.size 1 x (by rfl) (heap_alloc_new w3 _) (by have := HLN.out; omega) (by have := HB.out.size; simp; omega) ?_); intro g1 cp1 w4 own4 gr4; refine hK _ _ ?_; refine Hid.out ?_)
            refine aside ?_
            have B4 := aside ((HB.out.alloc HB.out.size (.cells #[.string x.k, .int .i64 x.c, .int .i64 x.n, .string x.v, .bool x.d] 33)).grown gr4 (by have := HB.out.size; simp; omega) (fun k e => (HO.out.lt k e).1))
            have O4 := aside own4
            have K4 := aside (show w4.heap[rb]? = some (.cells #[.string lo, .string hi, .bool op] 24 (0, 0)) from by
              rw [gr4.block rb (by have := (Array.getElem?_eq_some_iff.1 HK.out).1; simp; omega) (fun e => by
                obtain ⟨-, cs, h3⟩ := row_blkM HO.out e.symm
                rw [HK.out] at h3; simp at h3)]
              exact blk_on HK.out (bnew _ _))
            clear own4 gr4 x0 x1 x2 x3 x4
            go_wp2
            go_roundw
            case rel => exact ⟨j + 1, by go_num, by omega, by rw [HSN.out, List.length_append]; exact O4.out, K4.out, B4.out⟩
            case measure => simp [intOf]; omega
        · have hjl : j = la := by omega
          subst hjl
          go_wp2
          go_ret2
          exact ⟨_, rfl, HO.out, HB.out⟩
    · have h1' : (r == 0) = false := by simpa using h1
      rw [show ckR A la ⟨lo, hi, op⟩ = r from HCK.out, outL_bad _ h1]
      clear h1
      go_enter Tryd.func25, Tryd.ntmps25
      go_wp2_with fail
      refine CA.out.mono ?_
      rintro e w1 ⟨rfl, b1⟩
      have B1 := aside (bthen (bnew w (.cells #[.string lo, .string hi, .bool op] 24)) b1)
      have K1 := aside (blk_on (heap_alloc_new w (.cells #[.string lo, .string hi, .bool op] 24)) b1)
      obtain ⟨r0, r1, r2⟩ := box3r K1.out
      clear b1 CA
      go_wp2_with fail
      refine (CR.out _).mono ?_
      rintro e w2 ⟨rfl, b2⟩
      replace B1 := aside (bthen B1.out b2)
      clear b2 CR r0 r1 r2
      go_wp2
      go_ret2
      exact ⟨_, rfl, World.ownsRow_nil _ _ _ _, B1.out⟩
  · have h0' : (q == 0) = false := by simpa using h0
    rw [show ckR A la ⟨lo, hi, op⟩ = q from by rw [HCK.out, if_pos h0], outL_bad _ h0]
    clear h0
    go_enter Tryd.func25, Tryd.ntmps25
    go_wp2_with fail
    refine CA.out.mono ?_
    rintro e w1 ⟨rfl, b1⟩
    have B1 := aside (bthen (bnew w (.cells #[.string lo, .string hi, .bool op] 24)) b1)
    clear b1 CA
    go_wp2
    go_ret2
    exact ⟨_, rfl, World.ownsRow_nil _ _ _ _, B1.out⟩
theorem own_emptyE (w : World) (B : Nat) (h : B ≤ w.heap.size) : (w.alloc (.cells #[] 33)).ownsRow B 33 5 (.slice (some ⟨w.heap.size, 0, none⟩) 0 0) 0 (entCells []) := by
  refine ⟨rfl, .inr ⟨w.heap.size, 0, #[], rfl, h, heap_alloc_new w _, Nat.le_refl _, Nat.zero_le _, rfl, rfl⟩⟩
theorem holdsRef_at {lo hi : ByteArray} {op : Bool} {k : ByteArray} {q : Bool} (h : Rg.has ⟨lo, hi, op⟩ k = q) (w : World) : Calls Tryd.prog 51 #[.agg #[.string lo, .string hi, .bool op], .string k] w fun e w' => e = .returned (.bool q) ∧ Below w.heap.size w w' := by
  subst h; exact holdsRef_any lo hi op k w
set_option maxHeartbeats 6400000 in
set_option maxRecDepth 100000 in
theorem rin_any (a : Option Addr) (la ca : Nat) (A : Nat → En) (lo hi : ByteArray) (op : Bool) (w : World) (hA : EntsIn w a la ca A) (hl : la ≤ 2147483648) :
    Calls Tryd.prog 19 #[.slice a la ca, .agg #[.string lo, .string hi, .bool op]] w fun e w' => Says w (ckR A la ⟨lo, hi, op⟩) (outL (ckR A la ⟨lo, hi, op⟩) (inL ⟨lo, hi, op⟩ (firstE A la))) e w' := by
  obtain ⟨q, hq⟩ : ∃ q, ckN A la = q := ⟨_, rfl⟩
  obtain ⟨r, hr⟩ : ∃ r, Rg.chk ⟨lo, hi, op⟩ = r := ⟨_, rfl⟩
  have CA := aside (rchk_any a la ca A _ (hA.keep (bnew w (.cells #[.string lo, .string hi, .bool op] 24))))
  have CR := aside (fun W => checkRef_at hr W)
  rw [hq] at CA
  have HA := aside hA
  have HCK := aside (show ckR A la ⟨lo, hi, op⟩ = if q ≠ 0 then q else r from by unfold ckR; rw [hq, hr])
  have hmx : (la : Int) ≤ 9223372036854775807 := by omega
  clear hA hq hr
  by_cases h0 : q = 0
  · subst h0
    by_cases h1 : r = 0
    · subst h1
      rw [show ckR A la ⟨lo, hi, op⟩ = 0 from HCK.out, outL_ok _ rfl]
      go_enter Tryd.func19, Tryd.ntmps19
      go_wp2_with fail
      refine CA.out.mono ?_
      rintro e w1 ⟨rfl, b1⟩
      have B1 := aside (bthen (bnew w (.cells #[.string lo, .string hi, .bool op] 24)) b1)
      have K1 := aside (blk_on (heap_alloc_new w (.cells #[.string lo, .string hi, .bool op] 24)) b1)
      obtain ⟨r0, r1, r2⟩ := box3r K1.out
      clear b1 CA
      go_wp2_with fail
      refine (CR.out _).mono ?_
      rintro e w2 ⟨rfl, b2⟩
      replace K1 := aside (blk_on K1.out b2)
      replace B1 := aside (bthen B1.out b2)
      obtain ⟨rb, hrb⟩ : ∃ rb, w.heap.size = rb := ⟨_, rfl⟩
      have HRB := aside hrb
      rw [hrb] at K1 ⊢
      clear b2 CR r0 r1 r2 hrb
      have KE := aside (blk_on K1.out (bnew w2 (.cells #[] 33)))
      have BE := aside (bthen B1.out (bnew w2 (.cells #[] 33)))
      have OE := aside (own_emptyE w2 w.heap.size B1.out.size)
      go_wp2
      go_loopw [7, 8] (fun v i wr => ∃ j : Nat, i = .int .i64 (j : Int) ∧ j ≤ la ∧ wr.ownsRow w.heap.size 33 5 v (inL ⟨lo, hi, op⟩ (firstE A j)).length (entCells (inL ⟨lo, hi, op⟩ (firstE A j))) ∧ wr.heap[rb]? = some (.cells #[.string lo, .string hi, .bool op] 24 (0, 0)) ∧ Below w.heap.size w wr) (fun _ i _ => la - (intOf i).toNat)
      case atStart => exact ⟨0, rfl, Nat.zero_le _, OE.out, KE.out, BE.out⟩
      case round =>
        obtain ⟨j, rfl, hj, hO, hK, hB⟩ := hrel
        have HO := aside hO
        have HK := aside hK
        have HB := aside hB
        have hj0 : (0 : Int) ≤ (j : Int) := by omega
        obtain ⟨r0, r1, r2⟩ := box3r hK
        have hrl : rb < wr.heap.size := (Array.getElem?_eq_some_iff.1 hK).1
        clear hO hK hB
        by_cases hlt : (j : Int) < (la : Int)
        · have eA := HA.out.keep HB.out
          rcases eA.2.2 with h0 | ⟨ba, oa, rfl, hba, -⟩
          · omega
          obtain ⟨x, hx⟩ : ∃ x, A j = x := ⟨_, rfl⟩
          obtain ⟨c0, c1, c2, c3, c4⟩ := ents_five eA (by omega) hx
          have HSN := aside (inL_snoc ⟨lo, hi, op⟩ (firstE A j) x)
          rw [← hx, ← firstE_succ, hx] at HSN
          have HLN := aside (show (inL ⟨lo, hi, op⟩ (firstE A j)).length ≤ la from by have h1 := inL_len ⟨lo, hi, op⟩ (firstE A j); rw [firstE_len] at h1; omega)
          have EA := aside eA
          have HXX := aside hx
          clear eA hx
          cases hh : Rg.has ⟨lo, hi, op⟩ x.k
          · have CH := aside (fun W => holdsRef_at hh W)
            rw [hh] at HSN
            simp only [Bool.false_eq_true, if_false, List.append_nil] at HSN
            clear hh
            go_wp2_with fail
            refine wp_region_held_drew (S := fun W => Below wr.heap.size wr W ∧ W.cell? ⟨rb, 0, none⟩ = some (.string lo) ∧ W.cell? ⟨rb, 1, none⟩ = some (.string hi) ∧ W.cell? ⟨rb, 2, none⟩ = some (.bool op) ∧ W.cell? ⟨ba, oa + j * 5, none⟩ = some (.string x.k)) (by kernel_rfl) ⟨(Below.refl _ wr).drew, r0, r1, r2, c0⟩ (fun hHeld => ?_)
            refine wpAnyH_take (i := 0) (v := ?_) rfl (by kernel_rfl) (by kernel_rfl) (by kernel_rfl) (fun _ _ _ h => h) (Or.inl ⟨by rfl, ?_⟩) (by assumption) ?_
            rotate_left
            · intro w hSw
              go_simp
              try with_reducible rfl
            simp only [Act.put, List.getElem_toArray, List.getElem_cons_zero, List.setIfInBounds_toArray, List.set_cons_zero, List.set_cons_succ]
            refine wpAnyH_take (i := 1) (v := ?_) rfl (by kernel_rfl) (by kernel_rfl) (by kernel_rfl) (fun _ _ _ h => h) (Or.inl ⟨by rfl, ?_⟩) (by assumption) ?_
            rotate_left
            · intro w hSw
              go_simp
              try with_reducible rfl
            simp only [Act.put, List.getElem_toArray, List.getElem_cons_zero, List.getElem_cons_succ, List.setIfInBounds_toArray, List.set_cons_zero, List.set_cons_succ]
            refine wpAnyH_take (i := 2) (v := ?_) rfl (by kernel_rfl) (by kernel_rfl) (by kernel_rfl) (fun _ _ _ h => h) (Or.inl ⟨by rfl, ?_⟩) (by assumption) ?_
            rotate_left
            · intro w hSw
              go_simp
              try with_reducible rfl
            simp only [Act.put, List.getElem_toArray, List.getElem_cons_zero, List.getElem_cons_succ, List.setIfInBounds_toArray, List.set_cons_zero, List.set_cons_succ]
            refine wpAnyH_take (i := 3) (v := ?_) rfl (by kernel_rfl) (by kernel_rfl) (by kernel_rfl) (fun _ _ _ h => h) (Or.inl ⟨by rfl, ?_⟩) (by assumption) ?_
            rotate_left
            · intro w hSw
              go_simp
              try with_reducible rfl
            simp only [Act.put, List.getElem_toArray, List.getElem_cons_zero, List.getElem_cons_succ, List.setIfInBounds_toArray, List.set_cons_zero, List.set_cons_succ]
            refine wpAnyH_take (i := 4) (v := ?_) rfl (by kernel_rfl) (by kernel_rfl) (by kernel_rfl) (fun _ _ _ h => h) (Or.inl ⟨by rfl, ?_⟩) (by assumption) ?_
            rotate_left
            · intro w hSw
              go_simp
              try with_reducible rfl
            simp only [Act.put, List.getElem_toArray, List.getElem_cons_zero, List.getElem_cons_succ, List.setIfInBounds_toArray, List.set_cons_zero, List.set_cons_succ]
            refine wpAnyH_take (i := 5) (v := ?_) rfl (by kernel_rfl) (by kernel_rfl) (by kernel_rfl) (fun _ _ _ h => h) (Or.inl ⟨by rfl, ?_⟩) (by assumption) ?_
            rotate_left
            · intro w hSw
              go_simp
              try with_reducible rfl
            simp only [Act.put, List.getElem_toArray, List.getElem_cons_zero, List.getElem_cons_succ, List.setIfInBounds_toArray, List.set_cons_zero, List.set_cons_succ]
            refine wpAnyH_ready (rs := [6]) (by kernel_rfl) (by simp) ?_
            refine AllReadyH.cons rfl (fun K hK => ?_) AllReadyH.nil
            go_simp
            refine (CH.out _).mono ?_
            rintro e w9 ⟨rfl, bb⟩
            refine hK.out _ _ (⟨hHeld.1.trans (bb.mono hHeld.1.size), cell_in hHeld.2.1 bb, cell_in hHeld.2.2.1 bb, cell_in hHeld.2.2.2.1 bb, cell_in hHeld.2.2.2.2 bb⟩) (fun hHeld => ?_)
            clear hK K 
            refine wpAnyH_done (by kernel_rfl) ?_ _
            have B3 := aside hHeld.1
            clear hHeld CH c0 c1 c2 c3 c4 r0 r1 r2
            go_wp2
            go_roundw
            case rel => exact ⟨j + 1, by go_num, by omega, by rw [HSN.out]; exact own_on HO.out B3.out, blk_on HK.out B3.out, bthen HB.out B3.out⟩
            case measure => simp [intOf]; omega
          · have CH := aside (fun W => holdsRef_at hh W)
            rw [hh] at HSN
            simp only [if_true] at HSN
            clear hh
            go_wp2_with fail
            refine wp_region_held_drew (S := fun W => Below wr.heap.size wr W ∧ W.cell? ⟨rb, 0, none⟩ = some (.string lo) ∧ W.cell? ⟨rb, 1, none⟩ = some (.string hi) ∧ W.cell? ⟨rb, 2, none⟩ = some (.bool op) ∧ W.cell? ⟨ba, oa + j * 5, none⟩ = some (.string x.k)) (by kernel_rfl) ⟨(Below.refl _ wr).drew, r0, r1, r2, c0⟩ (fun hHeld => ?_)
            refine wpAnyH_take (i := 0) (v := ?_) rfl (by kernel_rfl) (by kernel_rfl) (by kernel_rfl) (fun _ _ _ h => h) (Or.inl ⟨by rfl, ?_⟩) (by assumption) ?_
            rotate_left
            · intro w hSw
              go_simp
              try with_reducible rfl
            simp only [Act.put, List.getElem_toArray, List.getElem_cons_zero, List.setIfInBounds_toArray, List.set_cons_zero, List.set_cons_succ]
            refine wpAnyH_take (i := 1) (v := ?_) rfl (by kernel_rfl) (by kernel_rfl) (by kernel_rfl) (fun _ _ _ h => h) (Or.inl ⟨by rfl, ?_⟩) (by assumption) ?_
            rotate_left
            · intro w hSw
              go_simp
              try with_reducible rfl
            simp only [Act.put, List.getElem_toArray, List.getElem_cons_zero, List.getElem_cons_succ, List.setIfInBounds_toArray, List.set_cons_zero, List.set_cons_succ]
            refine wpAnyH_take (i := 2) (v := ?_) rfl (by kernel_rfl) (by kernel_rfl) (by kernel_rfl) (fun _ _ _ h => h) (Or.inl ⟨by rfl, ?_⟩) (by assumption) ?_
            rotate_left
            · intro w hSw
              go_simp
              try with_reducible rfl
            simp only [Act.put, List.getElem_toArray, List.getElem_cons_zero, List.getElem_cons_succ, List.setIfInBounds_toArray, List.set_cons_zero, List.set_cons_succ]
            refine wpAnyH_take (i := 3) (v := ?_) rfl (by kernel_rfl) (by kernel_rfl) (by kernel_rfl) (fun _ _ _ h => h) (Or.inl ⟨by rfl, ?_⟩) (by assumption) ?_
            rotate_left
            · intro w hSw
              go_simp
              try with_reducible rfl
            simp only [Act.put, List.getElem_toArray, List.getElem_cons_zero, List.getElem_cons_succ, List.setIfInBounds_toArray, List.set_cons_zero, List.set_cons_succ]
            refine wpAnyH_take (i := 4) (v := ?_) rfl (by kernel_rfl) (by kernel_rfl) (by kernel_rfl) (fun _ _ _ h => h) (Or.inl ⟨by rfl, ?_⟩) (by assumption) ?_
            rotate_left
            · intro w hSw
              go_simp
              try with_reducible rfl
            simp only [Act.put, List.getElem_toArray, List.getElem_cons_zero, List.getElem_cons_succ, List.setIfInBounds_toArray, List.set_cons_zero, List.set_cons_succ]
            refine wpAnyH_take (i := 5) (v := ?_) rfl (by kernel_rfl) (by kernel_rfl) (by kernel_rfl) (fun _ _ _ h => h) (Or.inl ⟨by rfl, ?_⟩) (by assumption) ?_
            rotate_left
            · intro w hSw
              go_simp
              try with_reducible rfl
            simp only [Act.put, List.getElem_toArray, List.getElem_cons_zero, List.getElem_cons_succ, List.setIfInBounds_toArray, List.set_cons_zero, List.set_cons_succ]
            refine wpAnyH_ready (rs := [6]) (by kernel_rfl) (by simp) ?_
            refine AllReadyH.cons rfl (fun K hK => ?_) AllReadyH.nil
            go_simp
            refine (CH.out _).mono ?_
            rintro e w9 ⟨rfl, bb⟩
            refine hK.out _ _ (⟨hHeld.1.trans (bb.mono hHeld.1.size), cell_in hHeld.2.1 bb, cell_in hHeld.2.2.1 bb, cell_in hHeld.2.2.2.1 bb, cell_in hHeld.2.2.2.2 bb⟩) (fun hHeld => ?_)
            clear hK K 
            refine wpAnyH_done (by kernel_rfl) ?_ _
            have B3 := aside hHeld.1
            have HX5 := aside (fun W (bb : Below wr.heap.size wr W) => ents_five (EA.out.keep bb) (by omega) HXX.out)
            obtain ⟨x0, x1, x2, x3, x4⟩ := HX5.out _ B3.out
            generalize w9 = w3 at *
            replace HO := aside (own_on HO.out B3.out)
            replace HK := aside (blk_on HK.out B3.out)
            replace HB := aside (bthen HB.out B3.out)
            clear hHeld CH c0 c1 c2 c3 c4 r0 r1 r2
            go_wp2_with (at_builtin; go_loud (refine wpList_plain rfl fun K hK => op_append_ent _ _ rfl w.heap.size _ _ _ (by rfl) (HO.out.alloc _) w3.heap.size 1 x (by rfl) (heap_alloc_new w3 _) (by have := HLN.out; omega) (by have := HB.out.size; simp; omega) ?_); intro g1 cp1 w4 own4 gr4; refine hK _ _ ?_; refine Hid.out ?_)
            refine aside ?_
            have B4 := aside ((HB.out.alloc HB.out.size (.cells #[.string x.k, .int .i64 x.c, .int .i64 x.n, .string x.v, .bool x.d] 33)).grown gr4 (by have := HB.out.size; simp; omega) (fun k e => (HO.out.lt k e).1))
            have O4 := aside own4
            have K4 := aside (show w4.heap[rb]? = some (.cells #[.string lo, .string hi, .bool op] 24 (0, 0)) from by
              rw [gr4.block rb (by have := (Array.getElem?_eq_some_iff.1 HK.out).1; simp; omega) (fun e => by
                obtain ⟨-, cs, h3⟩ := row_blkM HO.out e.symm
                rw [HK.out] at h3; simp at h3)]
              exact blk_on HK.out (bnew _ _))
            clear own4 gr4 x0 x1 x2 x3 x4
            go_wp2
            go_roundw
            case rel => exact ⟨j + 1, by go_num, by omega, by rw [HSN.out, List.length_append]; exact O4.out, K4.out, B4.out⟩
            case measure => simp [intOf]; omega
        · have hjl : j = la := by omega
          subst hjl
          go_wp2
          go_ret2
          exact ⟨_, rfl, HO.out, HB.out⟩
    · have h1' : (r == 0) = false := by simpa using h1
      rw [show ckR A la ⟨lo, hi, op⟩ = r from HCK.out, outL_bad _ h1]
      clear h1
      go_enter Tryd.func19, Tryd.ntmps19
      go_wp2_with fail
      refine CA.out.mono ?_
      rintro e w1 ⟨rfl, b1⟩
      have B1 := aside (bthen (bnew w (.cells #[.string lo, .string hi, .bool op] 24)) b1)
      have K1 := aside (blk_on (heap_alloc_new w (.cells #[.string lo, .string hi, .bool op] 24)) b1)
      obtain ⟨r0, r1, r2⟩ := box3r K1.out
      clear b1 CA
      go_wp2_with fail
      refine (CR.out _).mono ?_
      rintro e w2 ⟨rfl, b2⟩
      replace B1 := aside (bthen B1.out b2)
      clear b2 CR r0 r1 r2
      go_wp2
      go_ret2
      exact ⟨_, rfl, World.ownsRow_nil _ _ _ _, B1.out⟩
  · have h0' : (q == 0) = false := by simpa using h0
    rw [show ckR A la ⟨lo, hi, op⟩ = q from by rw [HCK.out, if_pos h0], outL_bad _ h0]
    clear h0
    go_enter Tryd.func19, Tryd.ntmps19
    go_wp2_with fail
    refine CA.out.mono ?_
    rintro e w1 ⟨rfl, b1⟩
    have B1 := aside (bthen (bnew w (.cells #[.string lo, .string hi, .bool op] 24)) b1)
    clear b1 CA
    go_wp2
    go_ret2
    exact ⟨_, rfl, World.ownsRow_nil _ _ _ _, B1.out⟩
end Go.Proofs.YtoflalflacopdaaDoor
namespace Go.Proofs.YtoflalflacopdaaDoor
open Go.RowKit
set_option linter.unusedVariables false
theorem mem_insM (e x : En) : ∀ l : List En, RisesE l → (x ∈ insE e l ↔ x = e ∨ (x ∈ l ∧ x.k ≠ e.k))
  | [], _ => by simp [insE]
  | z :: l, h => by
    unfold RisesE at h
    rw [List.pairwise_cons] at h
    have ih := mem_insM e x l h.2
    unfold insE
    split
    · rename_i h1
      constructor
      · intro hx
        rcases List.mem_cons.1 hx with rfl | hx
        · exact .inl rfl
        · refine .inr ⟨hx, fun hk => ?_⟩
          rcases List.mem_cons.1 hx with rfl | hx
          · rw [hk, kLt_irrefl] at h1; cases h1
          · have := kLt_trans h1 (h.1 x hx)
            rw [hk, kLt_irrefl] at this; cases this
      · rintro (rfl | ⟨hx, _⟩)
        · exact List.mem_cons_self
        · exact List.mem_cons_of_mem _ hx
    · split
      · rename_i h1 h2
        rw [List.mem_cons, ih, List.mem_cons]
        constructor
        · rintro (rfl | rfl | ⟨a, b⟩)
          · exact .inr ⟨.inl rfl, kLt_ne' h2⟩
          · exact .inl rfl
          · exact .inr ⟨.inr a, b⟩
        · rintro (rfl | ⟨rfl | a, b⟩)
          · exact .inr (.inl rfl)
          · exact .inl rfl
          · exact .inr (.inr ⟨a, b⟩)
      · rename_i h1 h2
        have hz : e.k = z.k := kLt_total (by simpa using h1) (by simpa using h2)
        rw [List.mem_cons, List.mem_cons]
        constructor
        · rintro (rfl | a)
          · exact .inl rfl
          · refine .inr ⟨.inr a, fun hk => ?_⟩
            have := h.1 x a
            rw [hk, hz, kLt_irrefl] at this; cases this
        · rintro (rfl | ⟨rfl | a, b⟩)
          · exact .inl rfl
          · exact absurd hz.symm b
          · exact .inr a
where
  kLt_ne' {a b : ByteArray} (h : kLt a b = true) : a ≠ b := kLt_ne h
theorem look_memM {k : ByteArray} {l : List En} {o : En} (h : lookE k l = some o) : o ∈ l ∧ o.k = k := by
  unfold lookE at h
  have h1 := List.find?_some h
  refine ⟨List.mem_of_find?_eq_some h, ?_⟩
  simp only [Bool.and_eq_true, Bool.not_eq_true'] at h1
  exact kLt_total h1.2 h1.1
theorem look_notM {k : ByteArray} {l : List En} (h : lookE k l = none) : ∀ y ∈ l, y.k ≠ k := by
  intro y hy hk
  unfold lookE at h
  have := List.find?_eq_none.1 h y hy
  rw [hk] at this
  simp [kLt_irrefl] at this
theorem mx_inM {a b : List En} (ha : MapL a) (hb : MapL b) (r : Rg) : inL r (mxL a b) = mxL (inL r a) (inL r b) := by
  have ma : MapL (inL r a) := mapL_sub ha List.filter_sublist
  have mb : MapL (inL r b) := mapL_sub hb List.filter_sublist
  have mm := mapL_sub (mx_map ha hb) (l := inL r (mxL a b)) List.filter_sublist
  have mem : ∀ (l : List En) (x : En), x ∈ inL r l ↔ x ∈ l ∧ Rg.has r x.k = true := fun l x => by unfold inL; rw [List.mem_filter]
  refine rises_mem mm.rises (mx_rises _ _ ma mb) (fun x => ?_)
  rw [mem, mem_mx ha hb, mem_mx ma mb]
  constructor
  · rintro ⟨h | h, hr⟩
    · exact .inl ⟨(mem a x).2 ⟨h.1, hr⟩, fun y hy hk => h.2 y ((mem b y).1 hy).1 hk⟩
    · exact .inr ⟨(mem b x).2 ⟨h.1, hr⟩, fun y hy hk => h.2 y ((mem a y).1 hy).1 hk⟩
  · rintro (h | h)
    · have hx := (mem a x).1 h.1
      exact ⟨.inl ⟨hx.1, fun y hy hk => h.2 y ((mem b y).2 ⟨hy, by rw [hk]; exact hx.2⟩) hk⟩, hx.2⟩
    · have hx := (mem b x).1 h.1
      exact ⟨.inr ⟨hx.1, fun y hy hk => h.2 y ((mem a y).2 ⟨hy, by rw [hk]; exact hx.2⟩) hk⟩, hx.2⟩
theorem in_mapM {a : List En} (ha : MapL a) (r : Rg) : MapL (inL r a) := mapL_sub ha List.filter_sublist
theorem tk_okM {s : TkS} (h : MapL s.l ∧ s.l.length ≤ 256) (e : En) : MapL (tkStep s e).l ∧ (tkStep s e).l.length ≤ 256 := by
  unfold tkStep
  split
  · rename_i hy
    obtain ⟨-, h2, h3⟩ := tk_yes hy
    exact ⟨take_map h.1 h2, take_len h.1.rises h.2 h3⟩
  · split
    · exact h
    · exact h
theorem one_mapM {e : En} (h : e.chk = 0) : MapL [e] := ⟨List.pairwise_singleton _ _, fun x hx => by rw [List.mem_singleton] at hx; subst hx; exact h⟩
theorem insE_geM (e : En) : ∀ l : List En, l.length ≤ (insE e l).length
  | [] => by simp [insE]
  | y :: l => by
    have ih := insE_geM e l
    unfold insE
    split
    · simp
    · split
      · simp only [List.length_cons]; omega
      · simp
/-- One entry that is taken, and not refused, makes the newest of both. -/
theorem tkStep_mx {s : TkS} (h : MapL s.l) {e : En} (he : e.chk = 0) (hf : (tkStep s e).f = s.f) : (tkStep s e).l = mxL s.l [e] := by
  have h1 := one_mapM he
  have hr : roomB e.k s.l = true := by
    cases hq : roomB e.k s.l
    · exfalso
      have h80 : tkSay e s.l = (80, false) := by unfold tkSay; rw [if_neg (by simp [he]), if_pos hq]
      unfold tkStep at hf
      rw [h80] at hf
      simp at hf
    · rfl
  have hs : tkSay e s.l = match lookE e.k s.l with
      | none => (0, true)
      | some o => (0, En.newer e o) := by
    unfold tkSay
    rw [if_neg (by simpa using he), if_neg (by simp [hr])]
    rfl
  have hi : ∀ x, (x ∈ insE e s.l ↔ x = e ∨ (x ∈ s.l ∧ x.k ≠ e.k)) := fun x => mem_insM e x s.l h.rises
  cases hk : lookE e.k s.l with
  | none =>
    have hn := look_notM hk
    have ht : (tkStep s e).l = insE e s.l := by unfold tkStep; rw [hs, hk]; rfl
    rw [ht]
    refine rises_mem (take_map h he).rises (mx_map h h1).rises (fun x => ?_)
    rw [hi, mem_mx h h1]
    constructor
    · rintro (rfl | ⟨a, b⟩)
      · exact .inr ⟨by simp, fun y hy hk => absurd hk (hn y hy)⟩
      · exact .inl ⟨a, fun y hy hky => by rw [List.mem_singleton] at hy; rw [hy] at hky; exact absurd hky.symm b⟩
    · rintro (⟨a, b⟩ | ⟨a, b⟩)
      · exact .inr ⟨a, hn x a⟩
      · exact .inl (List.mem_singleton.1 a)
  | some o =>
    obtain ⟨ho, hok⟩ := look_memM hk
    have hone : ∀ y ∈ s.l, y.k = e.k → y = o := fun y hy hyk => key_one h.rises hy ho (hyk.trans hok.symm)
    cases hn : En.newer e o with
    | true =>
      have h5 : tkSay e s.l = (0, true) := by rw [hs, hk]; show (0, En.newer e o) = _; rw [hn]
      have ht : (tkStep s e).l = insE e s.l := by unfold tkStep; rw [h5]; rfl
      rw [ht]
      refine rises_mem (take_map h he).rises (mx_map h h1).rises (fun x => ?_)
      rw [hi, mem_mx h h1]
      constructor
      · rintro (rfl | ⟨a, b⟩)
        · exact .inr ⟨by simp, fun y hy hk => by rw [hone y hy hk]; exact hn⟩
        · exact .inl ⟨a, fun y hy hky => by rw [List.mem_singleton] at hy; rw [hy] at hky; exact absurd hky.symm b⟩
      · rintro (⟨a, b⟩ | ⟨a, b⟩)
        · refine .inr ⟨a, fun hxe => ?_⟩
          have := b e (by simp) hxe.symm
          rw [hone x a hxe, hn] at this
          cases this
        · exact .inl (List.mem_singleton.1 a)
    | false =>
      have h5 : tkSay e s.l = (0, false) := by rw [hs, hk]; show (0, En.newer e o) = _; rw [hn]
      have ht : (tkStep s e).l = s.l := by unfold tkStep; rw [h5]; rfl
      rw [ht]
      refine rises_mem h.rises (mx_map h h1).rises (fun x => ?_)
      rw [mem_mx h h1]
      constructor
      · intro a
        exact .inl ⟨a, fun y hy hky => by rw [List.mem_singleton] at hy; rw [hy] at hky ⊢; rw [hone x a hky.symm]; exact hn⟩
      · rintro (⟨a, b⟩ | ⟨a, b⟩)
        · exact a
        · rw [List.mem_singleton] at a
          subst a
          have := b o ho hok
          rw [hn] at this
          cases this
theorem mx_consM {L E : List En} {e : En} (hL : MapL L) (hE : MapL (e :: E)) : mxL (mxL L [e]) E = mxL L (e :: E) := by
  have h1 : MapL [e] := one_mapM (hE.chk e (by simp))
  have h2 : MapL E := ⟨(rises_consE.1 hE.rises).2, fun x hx => hE.chk x (List.mem_cons_of_mem _ hx)⟩
  have hM := mx_map hL h1
  have hne := rises_ne hE.rises
  refine rises_mem (mx_map hM h2).rises (mx_map hL hE).rises (fun x => ?_)
  rw [mem_mx hM h2, mem_mx hL hE, mem_mx hL h1]
  constructor
  · rintro (⟨⟨a, b⟩ | ⟨a, b⟩, c⟩ | ⟨a, b⟩)
    · refine .inl ⟨a, fun y hy hk => ?_⟩
      rcases List.mem_cons.1 hy with rfl | hy
      · exact b y (by simp) hk
      · exact c y hy hk
    · rw [List.mem_singleton] at a
      subst a
      exact .inr ⟨by simp, b⟩
    · refine .inr ⟨List.mem_cons_of_mem _ a, fun y hy hk => b y ((mem_mx hL h1 y).2 (.inl ⟨hy, fun z hz hzk => ?_⟩)) hk⟩
      rw [List.mem_singleton] at hz
      subst hz
      exact absurd (hk.symm.trans hzk.symm) (hne x a)
  · rintro (⟨a, b⟩ | ⟨a, b⟩)
    · exact .inl ⟨.inl ⟨a, fun y hy hk => b y (by rw [List.mem_singleton] at hy; subst hy; simp) hk⟩, fun y hy hk => b y (List.mem_cons_of_mem _ hy) hk⟩
    · rcases List.mem_cons.1 a with rfl | a2
      · exact .inl ⟨.inr ⟨by simp, b⟩, fun y hy hk => absurd hk (hne y hy)⟩
      · refine .inr ⟨a2, fun y hy hky => ?_⟩
        rcases mx_src hL h1 hy with hy | hy
        · exact b y hy hky
        · rw [List.mem_singleton] at hy
          rw [hy] at hky
          exact absurd hky.symm (hne x a2)
theorem tkAll_consM (s : TkS) (e : En) (E : List En) : tkAll s (e :: E) = tkAll (tkStep s e) E := rfl
theorem tkStep_fM (s : TkS) (e : En) : s.f ≤ (tkStep s e).f := by
  unfold tkStep
  split
  · exact Nat.le_refl _
  · split
    · exact Nat.le_succ _
    · exact Nat.le_refl _
theorem tkAll_fM (E : List En) : ∀ s : TkS, s.f ≤ (tkAll s E).f := by
  induction E with
  | nil => exact fun s => Nat.le_refl _
  | cons e E ih => exact fun s => by rw [tkAll_consM]; exact Nat.le_trans (tkStep_fM s e) (ih _)
theorem tkStep_geM (s : TkS) (e : En) : s.l.length ≤ (tkStep s e).l.length := by
  unfold tkStep
  split
  · exact insE_geM e s.l
  · split <;> exact Nat.le_refl _
theorem tkAll_geM (E : List En) : ∀ s : TkS, s.l.length ≤ (tkAll s E).l.length := by
  induction E with
  | nil => exact fun s => Nat.le_refl _
  | cons e E ih => exact fun s => by rw [tkAll_consM]; exact Nat.le_trans (tkStep_geM s e) (ih _)
/-- Entries of a map that are taken, none of them refused, make the newest of both. -/
theorem tkAll_mx (E : List En) : ∀ (s : TkS), MapL s.l ∧ s.l.length ≤ 256 → MapL E → (tkAll s E).f = s.f → (tkAll s E).l = mxL s.l E := by
  induction E with
  | nil =>
    intro s h _ _
    refine rises_mem h.1.rises (mx_map h.1 MapL.nil).rises (fun x => ?_)
    rw [mem_mx h.1 MapL.nil]
    simp [tkAll]
  | cons e E ih =>
    intro s h hE hf
    have he := hE.chk e (by simp)
    have h2 : MapL E := ⟨(rises_consE.1 hE.rises).2, fun x hx => hE.chk x (List.mem_cons_of_mem _ hx)⟩
    rw [tkAll_consM] at hf ⊢
    have a1 := tkStep_fM s e
    have a2 := tkAll_fM E (tkStep s e)
    have hf1 : (tkStep s e).f = s.f := by omega
    rw [ih (tkStep s e) (tk_okM h e) h2 (by omega), tkStep_mx h.1 he hf1, mx_consM h.1 hE]
/-- Where one was refused the map is full. -/
theorem tkAll_full (E : List En) : ∀ (s : TkS), MapL s.l ∧ s.l.length ≤ 256 → s.f < (tkAll s E).f → (tkAll s E).l.length = 256 := by
  induction E with
  | nil => intro s _ h; exact absurd h (Nat.lt_irrefl _)
  | cons e E ih =>
    intro s h hf
    rw [tkAll_consM] at hf ⊢
    by_cases h1 : (tkStep s e).f = s.f
    · exact ih _ (tk_okM h e) (by omega)
    · have h2 : (tkStep s e).l = s.l ∧ roomB e.k s.l = false := by
        unfold tkStep at h1 ⊢
        split at h1
        · exact absurd rfl h1
        · rename_i ha
          rw [if_neg ha]
          split at h1
          · rename_i hb
            rw [if_pos hb]
            refine ⟨rfl, ?_⟩
            unfold tkSay at hb
            split at hb
            · rename_i hc
              exfalso
              have := chk_not80 e
              exact this hb
            · split at hb
              · assumption
              · cases hq : lookE e.k s.l <;> rw [hq] at hb <;> exact absurd hb (by simp)
          · exact absurd rfl h1
      have h3 := room_plc (k := e.k) h.1.rises
      rw [h2.2] at h3
      have h4 : ¬ s.l.length < 256 := by
        intro h5
        rw [decide_eq_true h5, Bool.or_true] at h3
        cases h3
      have h5 := tkAll_geM E (tkStep s e)
      have h6 := (tk_all h e E).2
      rw [h2.1] at h5
      omega
where
  chk_not80 (e : En) : e.chk ≠ 80 := by
    unfold En.chk
    repeat' split
    all_goals first
      | decide
      | (cases (e.d && !e.v.toList.isEmpty) <;> decide)
  tk_all {s : TkS} (h : MapL s.l ∧ s.l.length ≤ 256) (e : En) (E : List En) : MapL (tkAll (tkStep s e) E).l ∧ (tkAll (tkStep s e) E).l.length ≤ 256 := by
    induction E generalizing s e with
    | nil => exact tk_okM h e
    | cons f E ih => rw [tkAll_consM]; exact ih (tk_okM h e) f
theorem mx_lackM {a b : List En} (ha : MapL a) (hb : MapL b) : mxL b (lkL a b) = mxL b a := by
  refine rises_mem (mx_map hb (lk_map ha hb)).rises (mx_map hb ha).rises (fun x => ?_)
  rw [mem_mx hb (lk_map ha hb), mem_mx hb ha, mem_lk ha hb]
  constructor
  · rintro (⟨h1, h2⟩ | ⟨⟨h1, h2⟩, h3⟩)
    · refine .inl ⟨h1, fun y hy hk => ?_⟩
      cases hn : En.newer y x with
      | false => rfl
      | true =>
        have h4 : y ∈ lkL a b := (mem_lk ha hb y).2 ⟨hy, fun z hz hzk => by rw [key_one hb.rises hz h1 (hzk.trans hk)]; exact hn⟩
        rw [h2 y h4 hk] at hn
        cases hn
    · exact .inr ⟨h1, h2⟩
  · rintro (⟨h1, h2⟩ | ⟨h1, h2⟩)
    · exact .inl ⟨h1, fun y hy hk => h2 y ((mem_lk ha hb y).1 hy).1 hk⟩
    · exact .inr ⟨⟨h1, h2⟩, h2⟩
def kvE (e : En) : ByteArray × Int × Int := (e.k, e.c, e.n)
theorem mx_kv (a b : List En) : MapL a → MapL b → (mxL a b).map kvE = (mxL b a).map kvE := by
  have tl : ∀ {x : En} {l : List En}, MapL (x :: l) → MapL l := fun h => ⟨(rises_consE.1 h.rises).2, fun y hy => h.chk y (List.mem_cons_of_mem _ hy)⟩
  induction a, b using prs.induct with
  | case1 => intro _ _; rfl
  | case2 x r ih =>
    intro ha hb
    have hz := newer_z (ha.pos (e := x) (by simp))
    have ih := ih (tl ha) hb
    unfold mxL at ih ⊢
    rw [prs_left, prs_right]
    simp only [List.map_cons, ih]
    congr 1
    unfold En.best
    rw [hz.1, hz.2]
    rfl
  | case3 y s ih =>
    intro ha hb
    have hz := newer_z (hb.pos (e := y) (by simp))
    have ih := ih ha (tl hb)
    unfold mxL at ih ⊢
    rw [prs_left, prs_right]
    simp only [List.map_cons, ih]
    congr 1
    unfold En.best
    rw [hz.1, hz.2]
    rfl
  | case4 x r y s h ih =>
    intro ha hb
    have hz := newer_z (ha.pos (e := x) (by simp))
    have ih := ih (tl ha) hb
    have h' : kLt y.k x.k = false := kLt_asymm h
    unfold mxL at ih ⊢
    rw [prs_lt r s h, prs_gt s r h' h]
    simp only [List.map_cons, ih]
    congr 1
    unfold En.best
    rw [hz.1, hz.2]
    rfl
  | case5 x r y s h h2 ih =>
    intro ha hb
    have hz := newer_z (hb.pos (e := y) (by simp))
    have ih := ih ha (tl hb)
    have h' : kLt x.k y.k = false := by simpa using h
    unfold mxL at ih ⊢
    rw [prs_gt r s h' h2, prs_lt s r h2]
    simp only [List.map_cons, ih]
    congr 1
    unfold En.best
    rw [hz.1, hz.2]
    rfl
  | case6 x r y s h h2 ih =>
    intro ha hb
    have ih := ih (tl ha) (tl hb)
    have h' : kLt x.k y.k = false := by simpa using h
    have h2' : kLt y.k x.k = false := by simpa using h2
    have hk : x.k = y.k := kLt_total h' h2'
    unfold mxL at ih ⊢
    rw [prs_eq r s h' h2', prs_eq s r h2' h']
    simp only [List.map_cons, ih]
    congr 1
    show kvE (En.best x y) = kvE (En.best y x)
    cases h3 : En.newer y x with
    | true =>
      have h4 := newer_tot h3
      unfold En.best
      rw [h3, h4]
      rfl
    | false =>
      cases h4 : En.newer x y with
      | true => unfold En.best; rw [h3, h4]; rfl
      | false =>
        unfold En.best
        rw [h3, h4]
        have h5 := (newer_not y x).1 h3
        have h6 := (newer_not x y).1 h4
        show (x.k, x.c, x.n) = (y.k, y.c, y.n)
        rw [hk]
        have : x.c = y.c ∧ x.n = y.n := by omega
        rw [this.1, this.2]
theorem mx_kvlen {a b : List En} (ha : MapL a) (hb : MapL b) : (mxL a b).length = (mxL b a).length := by
  have := congrArg List.length (mx_kv a b ha hb)
  rwa [List.length_map, List.length_map] at this
theorem mx_kvat {a b : List En} (ha : MapL a) (hb : MapL b) {i : Nat} {x y : En} (hx : (mxL a b)[i]? = some x) (hy : (mxL b a)[i]? = some y) : x.k = y.k ∧ x.c = y.c ∧ x.n = y.n := by
  have h := congrArg (fun l => l[i]?) (mx_kv a b ha hb)
  simp only [List.getElem?_map, hx, hy, Option.map_some, Option.some.injEq] at h
  exact ⟨congrArg (fun p => p.1) h, congrArg (fun p => p.2.1) h, congrArg (fun p => p.2.2) h⟩
theorem out_num (r : Rg) (l : List En) : l.length = (inL r l).length + (l.filter (fun e => !Rg.has r e.k)).length := by
  unfold inL
  induction l with
  | nil => rfl
  | cons x l ih => cases h : Rg.has r x.k <;> simp [h] <;> omega
theorem out_mx {r : Rg} {L E : List En} (hL : MapL L) (hE : MapL E) (hr : ∀ e ∈ E, Rg.has r e.k = true) : (mxL L E).length - (inL r (mxL L E)).length = L.length - (inL r L).length := by
  have h : (mxL L E).filter (fun e => !Rg.has r e.k) = L.filter (fun e => !Rg.has r e.k) := by
    refine rises_mem (mapL_sub (mx_map hL hE) List.filter_sublist).rises (mapL_sub hL List.filter_sublist).rises (fun x => ?_)
    rw [List.mem_filter, List.mem_filter, mem_mx hL hE]
    constructor
    · rintro ⟨⟨a, b⟩ | ⟨a, b⟩, c⟩
      · exact ⟨a, c⟩
      · rw [hr x a] at c; cases c
    · rintro ⟨a, c⟩
      refine ⟨.inl ⟨a, fun y hy hk => ?_⟩, c⟩
      rw [← hk, hr y hy] at c
      cases c
  have h1 := out_num r (mxL L E)
  have h2 := out_num r L
  rw [h] at h1
  omega
theorem in_all {r : Rg} {E : List En} (hr : ∀ e ∈ E, Rg.has r e.k = true) : inL r E = E := List.filter_eq_self.2 hr
theorem in_has {r : Rg} {L : List En} : ∀ e ∈ inL r L, Rg.has r e.k = true := fun e he => (List.mem_filter.1 he).2
end Go.Proofs.YtoflalflacopdaaDoor
namespace Go.Proofs.YtoflalflacopdaaDoor
open Go.RowKit
set_option linter.unusedVariables false
/-- Two names. -/
def Nm.cmp (a l n b m k : Int) : Int := if b < a then 1 else if a < b then -1 else Vs.cmp l n m k
/-- Whether a name may be. -/
def Nm.chk (a l n : Int) : Int := if a < 0 ∨ 8 ≤ a then 110 else if l < 1 ∨ 1048576 < l ∨ n < 1 ∨ 1048576 < n then 111 else 0
end Go.Proofs.YtoflalflacopdaaDoor

/-
  ImageTurned, walked.
-/
import Derived.Test.YtlbkcndmljlnmaaDoorBk31
namespace Go.Proofs.YtlbkcndmljlnmaaDoor
open Go.RowKit
set_option linter.unusedVariables false
set_option maxHeartbeats 32000000 in
set_option maxRecDepth 100000 in
theorem limturned_walk (nn : Int) (a : Option Addr) (len cap : Nat) (T : Nat → En) (aP : Option Addr) (lenP capP : Nat) (TP : Nat → Int) (w : World) (L : Lanes w) (hE : EntsIn w a len cap T) (hform : (a = none ∧ len = 0 ∧ cap = 0) ∨ ∃ y, a = some y) (hz : len * 56 ≤ 140737488351232) (hP : IntsIn w aP lenP capP TP) :
    Calls Tryd.prog 7 #[.int .i64 nn, .slice a len cap, .slice aP lenP capP] w fun e w' => e = .returned (.bool true) ∧ Below w.heap.size w w' := by
  have HL := aside L
  have HE := aside hE
  have HFM := aside hform
  have HZ := aside hz
  have HP := aside hP
  have hmx : (len : Int) ≤ 9223372036854775807 := by omega
  have hcx : (cap : Int) ≤ 9223372036854775807 := by have := hE.2.1; unfold maxLen at this; omega
  have hlc : (len : Int) ≤ (cap : Int) := by have := hE.1; omega
  have hmx2 : (lenP : Int) ≤ 9223372036854775807 := by have := hP.1; have := hP.2.1; unfold maxLen at *; omega
  obtain ⟨nd, hnd⟩ : ∃ nd : Int, amg nn 8 = nd := ⟨_, rfl⟩
  have HNB := aside (show nodeB nd = true from by obtain ⟨k, h1, h2⟩ := amg_lt nn (show 0 < 8 from by decide); rw [← hnd]; exact node_yes (by have : ((8 : Nat) : Int) = 8 := rfl; rw [this] at h1; omega) (by have : ((8 : Nat) : Int) = 8 := rfl; rw [this] at h1; omega))
  have C1 := fun W => among11 nn 8 W (by decide) (by decide)
  rw [show ((8 : Nat) : Int) = 8 from rfl, hnd] at C1
  replace C1 := aside C1
  clear L hE hform hz hP hnd
  go_enter Tryd.func7, Tryd.ntmps7
  go_wp2_with fail
  refine (shown10 w HL.out).mono ?_
  rintro e w1 ⟨rfl, b1⟩
  have BB := aside b1
  clear b1
  go_wp2_with fail
  refine (C1.out _).mono ?_
  rintro e w2 ⟨rfl, e2⟩
  subst e2
  go_wp2_with fail
  refine (qnew nd _).mono ?_
  rintro e w3 ⟨b3, ⟨hn, -⟩ | ⟨-, sa, ga, ta, rfl, s3, l1, l2, l3⟩⟩
  · rw [HNB.out] at hn; cases hn
  have SA := aside s3
  have LA := aside (show w.heap.size ≤ sa ∧ w.heap.size ≤ ga ∧ w.heap.size ≤ ta from by have := BB.out.size; omega)
  replace BB := aside (bthen BB.out b3)
  clear s3 l1 l2 l3 b3
  go_wp2_with fail
  refine (C1.out _).mono ?_
  rintro e w4 ⟨rfl, e4⟩
  subst e4
  go_wp2_with fail
  refine (qnew nd _).mono ?_
  rintro e w5 ⟨b5, ⟨hn, -⟩ | ⟨-, sb, gb, tb, rfl, s5, l1, l2, l3⟩⟩
  · rw [HNB.out] at hn; cases hn
  have G0 := aside (show TJ w w5 sa ga ta sb gb tb nd [] 0 [] 0 from ⟨SA.out.below b5, s5, by have := SA.out.lt; omega, by have := SA.out.lt; omega, by have := SA.out.lt; omega, HL.out.keep (bthen BB.out b5), bthen BB.out b5, ⟨LA.out, by have := BB.out.size; omega⟩⟩)
  have O0 := aside (show LdOk nd 0 [] from ⟨HNB.out, by decide, by decide, by decide, MapL.nil, by simp⟩)
  clear b5 s5 l1 l2 l3 SA LA BB C1 HNB
  go_wp2
  go_loopw [57] (fun i wr => ∃ q : Nat, i = .int .i64 (q : Int) ∧ q ≤ len ∧ TJ w wr sa ga ta sb gb tb nd [] 0 [] 0 ∧ NoTw T q 0) (fun i _ => len - (intOf i).toNat)
  case atStart => exact ⟨0, rfl, Nat.zero_le _, G0.out, NoTw.nil T⟩
  case round =>
    obtain ⟨q, rfl, hq, htw, hno⟩ := hrel
    clear G0
    have G0 := aside htw
    have NO := aside hno
    clear hno
    by_cases hlt : (q : Int) < (len : Int)
    · rcases HE.out.2.2 with h0 | ⟨b, off, rfl, hb, hc⟩
      · omega
      · have HC := aside hc
        obtain ⟨c0, c1, c2, c3, c4⟩ := (hc q (by omega)).1
        replace c0 := cell_in c0 htw.below
        replace c1 := cell_in c1 htw.below
        replace c2 := cell_in c2 htw.below
        replace c3 := cell_in c3 htw.below
        replace c4 := cell_in c4 htw.below
        obtain ⟨x, hx⟩ : ∃ x, T q = x := ⟨_, rfl⟩
        rw [hx] at c0 c1 c2 c3 c4
        have HX := aside hx
        have QL := aside (show q + 1 ≤ len from by omega)
        have hq0 : (0 : Int) ≤ (q : Int) := by omega
        have hqc : (q : Int) ≤ (cap : Int) := by omega
        have hqw : IntKind.i64.wrap ((q : Int) + 1) = (q : Int) + 1 := by rw [IntKind.wrap_i64]; omega
        have G1 := aside (htw.on (bnew wr (.cells #[.string x.k, .int .i64 x.c, .int .i64 x.n, .string x.v, .bool x.d] 44)))
        have X1 := aside (heap_alloc_new wr (.cells #[.string x.k, .int .i64 x.c, .int .i64 x.n, .string x.v, .bool x.d] 44))
        clear hc hb hx htw hq G0
        go_wp2
        clear c0 c1 c2 c3 c4
        generalize wr.alloc (.cells #[.string x.k, .int .i64 x.c, .int .i64 x.n, .string x.v, .bool x.d] 44) = V at *
        generalize wr.heap.size = bx at *
        go_loopw [66] (fun i X => ∃ k : Nat, i = .int .i64 (k : Int) ∧ k ≤ q ∧ Below V.heap.size V X ∧ NoTw T q k) (fun i _ => q - (intOf i).toNat)
        case atStart => exact ⟨0, rfl, Nat.zero_le _, Below.refl _ _, NO.out⟩
        case round =>
          obtain ⟨k, rfl, hk, hbl, hno⟩ := hrel
          clear NO
          have NO := aside hno
          have BV := aside hbl
          clear hno
          by_cases hlt2 : (k : Int) < (q : Int)
          · obtain ⟨c0, c1, c2, c3, c4⟩ := (HC.out k (by have := QL.out; omega)).1
            have hbb := (G1.out.on hbl).below
            replace c0 := cell_in c0 hbb
            replace c1 := cell_in c1 hbb
            replace c2 := cell_in c2 hbb
            replace c3 := cell_in c3 hbb
            replace c4 := cell_in c4 hbb
            obtain ⟨y, hy⟩ : ∃ y, T k = y := ⟨_, rfl⟩
            rw [hy] at c0 c1 c2 c3 c4
            have HY := aside hy
            have KL := aside (show k + 1 ≤ q from by omega)
            have hk0 : (0 : Int) ≤ (k : Int) := by omega
            have hkw : IntKind.i64.wrap ((k : Int) + 1) = (k : Int) + 1 := by rw [IntKind.wrap_i64]; have := QL.out; omega
            have Y1 := aside (heap_alloc_new wr (.cells #[.string y.k, .int .i64 y.c, .int .i64 y.n, .string y.v, .bool y.d] 44))
            have Z1 := aside (blk_on (blk_on X1.out hbl) (bnew wr (.cells #[.string y.k, .int .i64 y.c, .int .i64 y.n, .string y.v, .bool y.d] 44)))
            have BW := aside (bthen hbl (bnew wr (.cells #[.string y.k, .int .i64 y.c, .int .i64 y.n, .string y.v, .bool y.d] 44)))
            clear hy hbl hbb hk BV
            obtain ⟨x0, x1, x2, x3, x4⟩ := quint Z1.out
            obtain ⟨y0, y1, y2, y3, y4⟩ := quint Y1.out
            have hvr := verq_run
            have hen := ent_ne
            cases hk1 : (x.k.toList == y.k.toList)
            · have NX := aside (NO.out.next (by rw [HX.out, HY.out]; intro e1 _ _; rw [e1] at hk1; simp at hk1))
              go_wp2
              go_roundw
              case rel => exact ⟨k + 1, by go_num, KL.out, BW.out, NX.out⟩
              case measure => simp [intOf]; have := KL.out; omega
            · cases hk2 : (x.c == y.c && x.n == y.n)
              · have NX := aside (NO.out.next (by rw [HX.out, HY.out]; intro _ e2 e3; rw [e2, e3] at hk2; simp at hk2))
                go_wp2
                go_roundw
                case rel => exact ⟨k + 1, by go_num, KL.out, BW.out, NX.out⟩
                case measure => simp [intOf]; have := KL.out; omega
              · cases hk3 : enEqB x y
                · go_wp2
                  go_ret
                  exact ⟨rfl, (G1.out.on BW.out).below⟩
                · have NX := aside (NO.out.next (by rw [HX.out, HY.out]; intro _ _ _; exact (enEqB_iff x y).1 hk3))
                  go_wp2
                  go_roundw
                  case rel => exact ⟨k + 1, by go_num, KL.out, BW.out, NX.out⟩
                  case measure => simp [intOf]; have := KL.out; omega
          · have hkq : k = q := by omega
            subst hkq
            go_wp2
            go_roundw
            case rel => exact ⟨k + 1, by go_num, QL.out, G1.out.on BV.out, NO.out.row⟩
            case measure => simp [intOf]; have := QL.out; omega
    · obtain rfl : len = q := by omega
      have NA := aside NO.out.all
      have G1 := aside htw
      clear hq NO htw G0
      go_wp2_with (at_builtin; refine wpList_plain rfl fun K hK => ?_; refine op_append_copy _ _ rfl (by rfl) a len cap T (by rfl) ?_ HFM.out HZ.out ?_; exact HE.out.keep G1.out.below; intro v9 w3 own9 b9; refine hK _ _ ?_; refine Hid.out ?_)
      refine aside ?_
      obtain ⟨aL, cL, rfl, hc1, hc2, hform⟩ := own_slc own9
      have R0 := aside (show w3.ownsRow wr.heap.size 44 5 (.slice aL len cL) len (entCells (firstE T len)) from own9)
      have BV := aside b9
      have HF := aside hform
      have hcL : (len : Int) ≤ (cL : Int) := by omega
      have hcL2 : (cL : Int) ≤ 9223372036854775807 := by unfold maxLen at hc2; omega
      clear own9 b9 hform hc1 hc2
      go_wp2
      generalize wr = V at *
      go_loopw [93] (fun i X => ∃ (q : Nat) (l : List En), i = .int .i64 (q : Int) ∧ q ≤ len ∧ X.ownsRow V.heap.size 44 5 (.slice aL len cL) len (entCells l) ∧ l.length = len ∧ (∀ x, x ∈ l ↔ ∃ p, p < len ∧ x = T p) ∧ Below V.heap.size V X) (fun i _ => len - (intOf i).toNat)
      case atStart => exact ⟨0, firstE T len, rfl, Nat.zero_le _, R0.out, by rw [firstE_len], fun x => by unfold firstE; simp only [List.mem_map, List.mem_range]; exact ⟨fun ⟨p, h1, h2⟩ => ⟨p, h1, h2.symm⟩, fun ⟨p, h1, h2⟩ => ⟨p, h1, h2.symm⟩⟩, BV.out⟩
      case round =>
        clear R0 BV
        obtain ⟨q, l, rfl, hq, hon, hll, hmem, hbl⟩ := hrel
        have ON := aside hon
        have LL := aside hll
        have MM := aside hmem
        have BV := aside hbl
        clear hon hll hmem hbl hlt
        by_cases hlt : (q : Int) < (len : Int)
        · have QL := aside (show q + 1 ≤ len from by omega)
          have hq0 : (0 : Int) ≤ (q : Int) := by omega
          have hqw : IntKind.i64.wrap ((q : Int) + 1) = (q : Int) + 1 := by rw [IntKind.wrap_i64]; omega
          by_cases hlp : (q : Int) < (lenP : Int)
          · rcases HP.out.2.2 with h0 | ⟨bP, offP, rfl, hbP, hcP⟩
            · omega
            have cp := cell_in (hcP q (by omega)) (G1.out.on BV.out).below
            rcases HF.out with ⟨-, h0, -⟩ | ⟨g, rfl, hgb⟩
            · omega
            obtain ⟨k, hk, hkl⟩ := amg_lt (TP q) (show 0 < len from by omega)
            have CA := fun W => among11 (TP q) len W (by omega) (by omega)
            rw [hk] at CA
            replace CA := aside CA
            have HK := aside hkl
            generalize TP q = pq at *
            clear hcP hbP hgb hq hk hkl
            go_wp2_with fail
            refine (CA.out _).mono ?_
            rintro e wx ⟨rfl, e1⟩
            obtain rfl : wr = wx := e1.symm
            have S2 := aside ON.out.drew
            have hk0 : (0 : Int) ≤ (k : Int) := by omega
            have hkl2 : (k : Int) < (len : Int) := by have := HK.out; omega
            have hgv : V.heap.size ≤ g := (S2.out.lt g rfl).1
            obtain ⟨c0, c1, c2, c3, c4⟩ := row_cells S2.out (i := k) (by have := LL.out; have := HK.out; omega)
            obtain ⟨d0, d1, d2, d3, d4⟩ := row_cells S2.out (i := q) (by have := LL.out; have := QL.out; omega)
            have z0 := row_frozenE S2.out (q * 5)
            have z1 := row_frozenE S2.out (q * 5 + 1)
            have z2 := row_frozenE S2.out (q * 5 + 2)
            have z3 := row_frozenE S2.out (q * 5 + 3)
            have z4 := row_frozenE S2.out (q * 5 + 4)
            have o1 := own_put S2.out (nthE l k) (j := q) (by have := LL.out; have := QL.out; omega)
            obtain ⟨e0, e1, e2, e3, e4⟩ := row_cells o1 (i := k) (by rw [List.length_set]; have := LL.out; have := HK.out; omega)
            have y0 := row_frozenE o1 (k * 5)
            have y1 := row_frozenE o1 (k * 5 + 1)
            have y2 := row_frozenE o1 (k * 5 + 2)
            have y3 := row_frozenE o1 (k * 5 + 3)
            have y4 := row_frozenE o1 (k * 5 + 4)
            have SW := aside (own_put o1 (nthE l q) (j := k) (by rw [List.length_set]; have := LL.out; have := HK.out; omega))
            have MM2 := aside (fun x => (swap_memI (l := l) (q := q) (k := k) (by have := LL.out; have := QL.out; omega) (by have := LL.out; have := HK.out; omega) x).trans (MM.out x))
            have LL2 := aside (show ((l.set q (nthE l k)).set k (nthE l q)).length = len from by rw [List.length_set, List.length_set]; exact LL.out)
            have BW := aside (show Below V.heap.size V ((((((((((((wr.drew).setCell ⟨g, q * 5, none⟩ (.string (nthE l k).k)).setCell ⟨g, q * 5 + 1, none⟩ (.int .i64 (nthE l k).c)).setCell ⟨g, q * 5 + 2, none⟩ (.int .i64 (nthE l k).n)).setCell ⟨g, q * 5 + 3, none⟩ (.string (nthE l k).v)).setCell ⟨g, q * 5 + 4, none⟩ (.bool (nthE l k).d))).setCell ⟨g, k * 5, none⟩ (.string (nthE l q).k)).setCell ⟨g, k * 5 + 1, none⟩ (.int .i64 (nthE l q).c)).setCell ⟨g, k * 5 + 2, none⟩ (.int .i64 (nthE l q).n)).setCell ⟨g, k * 5 + 3, none⟩ (.string (nthE l q).v)).setCell ⟨g, k * 5 + 4, none⟩ (.bool (nthE l q).d)) from ((((((((((BV.out.drew.setCell (p := ⟨g, q * 5, none⟩) hgv _).setCell (p := ⟨g, q * 5 + 1, none⟩) hgv _).setCell (p := ⟨g, q * 5 + 2, none⟩) hgv _).setCell (p := ⟨g, q * 5 + 3, none⟩) hgv _).setCell (p := ⟨g, q * 5 + 4, none⟩) hgv _).setCell (p := ⟨g, k * 5, none⟩) hgv _).setCell (p := ⟨g, k * 5 + 1, none⟩) hgv _).setCell (p := ⟨g, k * 5 + 2, none⟩) hgv _).setCell (p := ⟨g, k * 5 + 3, none⟩) hgv _).setCell (p := ⟨g, k * 5 + 4, none⟩) hgv _))
            clear o1 cp CA ON MM LL HK BV hgv
            go_wp2_with fail
            refine wp_region_held_drew (S := fun _ => True) (by kernel_rfl) trivial (fun hHeld => ?_)
            generalize World.drew _ = X at *
            generalize nthE (l.set q (nthE l k)) k = yk at *
            generalize nthE l k = xk at *
            generalize nthE l q = xq at *
            obtain ⟨X1, hX1⟩ : ∃ Z, ((((((X).setCell ⟨g, q * 5, none⟩ (.string xk.k)).setCell ⟨g, q * 5 + 1, none⟩ (.int .i64 xk.c)).setCell ⟨g, q * 5 + 2, none⟩ (.int .i64 xk.n)).setCell ⟨g, q * 5 + 3, none⟩ (.string xk.v)).setCell ⟨g, q * 5 + 4, none⟩ (.bool xk.d)) = Z := ⟨_, rfl⟩
            rw [hX1] at e0 e1 e2 e3 e4 y0 y1 y2 y3 y4 SW BW
            refine wpAnyH_take (i := 0) (v := ?_) rfl (by kernel_rfl) (by kernel_rfl) (by kernel_rfl) (fun _ _ _ h => h) (Or.inl ⟨by rfl, ?_⟩) (by assumption) ?_
            rotate_left
            · intro w hSw
              go_simp
              try with_reducible rfl
            simp only [Act.put, List.getElem_toArray, List.getElem_cons_zero, List.setIfInBounds_toArray, List.set_cons_zero, List.set_cons_succ]
            refine wpAnyH_take (i := 1) (v := ?_) rfl (by kernel_rfl) (by kernel_rfl) (by kernel_rfl) (fun _ _ _ h => h) (Or.inl ⟨by rfl, ?_⟩) (by assumption) ?_
            rotate_left
            · intro w hSw
              go_simp
              try with_reducible rfl
            simp only [Act.put, List.getElem_toArray, List.getElem_cons_zero, List.getElem_cons_succ, List.setIfInBounds_toArray, List.set_cons_zero, List.set_cons_succ]
            refine wpAnyH_take (i := 2) (v := ?_) rfl (by kernel_rfl) (by kernel_rfl) (by kernel_rfl) (fun _ _ _ h => h) (Or.inl ⟨by rfl, ?_⟩) (by assumption) ?_
            rotate_left
            · intro w hSw
              go_simp
              try with_reducible rfl
            simp only [Act.put, List.getElem_toArray, List.getElem_cons_zero, List.getElem_cons_succ, List.setIfInBounds_toArray, List.set_cons_zero, List.set_cons_succ]
            refine wpAnyH_take (i := 3) (v := ?_) rfl (by kernel_rfl) (by kernel_rfl) (by kernel_rfl) (fun _ _ _ h => h) (Or.inl ⟨by rfl, ?_⟩) (by assumption) ?_
            rotate_left
            · intro w hSw
              go_simp
              try with_reducible rfl
            simp only [Act.put, List.getElem_toArray, List.getElem_cons_zero, List.getElem_cons_succ, List.setIfInBounds_toArray, List.set_cons_zero, List.set_cons_succ]
            refine wpAnyH_take (i := 4) (v := ?_) rfl (by kernel_rfl) (by kernel_rfl) (by kernel_rfl) (fun _ _ _ h => h) (Or.inl ⟨by rfl, ?_⟩) (by assumption) ?_
            rotate_left
            · intro w hSw
              go_simp
              try with_reducible rfl
            simp only [Act.put, List.getElem_toArray, List.getElem_cons_zero, List.getElem_cons_succ, List.setIfInBounds_toArray, List.set_cons_zero, List.set_cons_succ]
            refine wpAnyH_take (i := 5) (v := ?_) rfl (by kernel_rfl) (by kernel_rfl) (by kernel_rfl) (fun _ _ _ h => h) (Or.inl ⟨by rfl, ?_⟩) (by assumption) ?_
            rotate_left
            · intro w hSw
              go_simp
              try with_reducible rfl
            simp only [Act.put, List.getElem_toArray, List.getElem_cons_zero, List.getElem_cons_succ, List.setIfInBounds_toArray, List.set_cons_zero, List.set_cons_succ]
            refine wpAnyH_take (i := 6) (v := ?_) rfl (by kernel_rfl) (by kernel_rfl) (by kernel_rfl) (fun _ _ _ h => h) (Or.inl ⟨by rfl, ?_⟩) (by assumption) ?_
            rotate_left
            · intro w hSw
              go_simp
              try with_reducible rfl
            simp only [Act.put, List.getElem_toArray, List.getElem_cons_zero, List.getElem_cons_succ, List.setIfInBounds_toArray, List.set_cons_zero, List.set_cons_succ]
            refine wpAnyH_take (i := 8) (v := ?_) rfl (by kernel_rfl) (by kernel_rfl) (by kernel_rfl) (fun _ _ _ h => h) (Or.inl ⟨by rfl, ?_⟩) (by assumption) ?_
            rotate_left
            · intro w hSw
              go_simp
              try with_reducible rfl
            simp only [Act.put, List.getElem_toArray, List.getElem_cons_zero, List.getElem_cons_succ, List.setIfInBounds_toArray, List.set_cons_zero, List.set_cons_succ]
            refine wpAnyH_take (i := 9) (v := ?_) rfl (by kernel_rfl) (by kernel_rfl) (by kernel_rfl) (fun _ _ _ h => h) (Or.inl ⟨by rfl, ?_⟩) (by assumption) ?_
            rotate_left
            · intro w hSw
              go_simp
              try with_reducible rfl
            simp only [Act.put, List.getElem_toArray, List.getElem_cons_zero, List.getElem_cons_succ, List.setIfInBounds_toArray, List.set_cons_zero, List.set_cons_succ]
            refine wpAnyH_take (i := 10) (v := ?_) rfl (by kernel_rfl) (by kernel_rfl) (by kernel_rfl) (fun _ _ _ h => h) (Or.inl ⟨by rfl, ?_⟩) (by assumption) ?_
            rotate_left
            · intro w hSw
              go_simp
              try with_reducible rfl
            simp only [Act.put, List.getElem_toArray, List.getElem_cons_zero, List.getElem_cons_succ, List.setIfInBounds_toArray, List.set_cons_zero, List.set_cons_succ]
            refine wpAnyH_ready (rs := [7, 11]) (by kernel_rfl) (by simp) ?_
            refine AllReadyH.cons rfl (fun K hK => ?_) (AllReadyH.cons rfl (fun K hK => ?_) AllReadyH.nil)
            · go_simp
              refine hK.out _ _ trivial (fun hHeld => ?_)
              clear hK K
              refine wpAnyH_ready (rs := [11]) (by kernel_rfl) (by simp) ?_
              refine AllReadyH.cons rfl (fun K hK => ?_) AllReadyH.nil
              go_simp
              refine hK.out _ _ trivial (fun hHeld => ?_)
              clear hK K 
              refine wpAnyH_take (i := 12) (v := ?_) rfl (by kernel_rfl) (by kernel_rfl) (by kernel_rfl) (fun _ _ _ h => h) (Or.inl ⟨by rfl, ?_⟩) (by assumption) ?_
              rotate_left
              · intro w hSw
                go_simp
                try with_reducible rfl
              simp only [Act.put, List.getElem_toArray, List.getElem_cons_zero, List.getElem_cons_succ, List.setIfInBounds_toArray, List.set_cons_zero, List.set_cons_succ]
              refine wpAnyH_ready (rs := [13]) (by kernel_rfl) (by simp) ?_
              refine AllReadyH.cons rfl (fun K hK => ?_) AllReadyH.nil
              go_simp
              refine hK.out _ _ trivial (fun hHeld => ?_)
              clear hK K c0 c1 c2 c3 c4 d0 d1 d2 d3 d4 z0 z1 z2 z3 z4 hX1
              refine wpAnyH_take (i := 14) (v := ?_) rfl (by kernel_rfl) (by kernel_rfl) (by kernel_rfl) (fun _ _ _ h => h) (Or.inl ⟨by rfl, ?_⟩) (by assumption) ?_
              rotate_left
              · intro w hSw
                go_simp
                try with_reducible rfl
              simp only [Act.put, List.getElem_toArray, List.getElem_cons_zero, List.getElem_cons_succ, List.setIfInBounds_toArray, List.set_cons_zero, List.set_cons_succ]
              refine wpAnyH_ready (rs := [15]) (by kernel_rfl) (by simp) ?_
              refine AllReadyH.cons rfl (fun K hK => ?_) AllReadyH.nil
              go_simp
              refine hK.out _ _ trivial (fun hHeld => ?_)
              clear hK K e0 e1 e2 e3 e4 y0 y1 y2 y3 y4
              refine wpAnyH_done (by kernel_rfl) ?_ _
              go_wp2
              go_roundw
              case rel => exact ⟨q + 1, _, by go_num, QL.out, SW.out, LL2.out, MM2.out, BW.out⟩
              case measure => simp [intOf]; have := QL.out; omega
            · go_simp
              refine hK.out _ _ trivial (fun hHeld => ?_)
              clear hK K
              refine wpAnyH_ready (rs := [7]) (by kernel_rfl) (by simp) ?_
              refine AllReadyH.cons rfl (fun K hK => ?_) AllReadyH.nil
              go_simp
              refine hK.out _ _ trivial (fun hHeld => ?_)
              clear hK K 
              refine wpAnyH_take (i := 12) (v := ?_) rfl (by kernel_rfl) (by kernel_rfl) (by kernel_rfl) (fun _ _ _ h => h) (Or.inl ⟨by rfl, ?_⟩) (by assumption) ?_
              rotate_left
              · intro w hSw
                go_simp
                try with_reducible rfl
              simp only [Act.put, List.getElem_toArray, List.getElem_cons_zero, List.getElem_cons_succ, List.setIfInBounds_toArray, List.set_cons_zero, List.set_cons_succ]
              refine wpAnyH_ready (rs := [13]) (by kernel_rfl) (by simp) ?_
              refine AllReadyH.cons rfl (fun K hK => ?_) AllReadyH.nil
              go_simp
              refine hK.out _ _ trivial (fun hHeld => ?_)
              clear hK K c0 c1 c2 c3 c4 d0 d1 d2 d3 d4 z0 z1 z2 z3 z4 hX1
              refine wpAnyH_take (i := 14) (v := ?_) rfl (by kernel_rfl) (by kernel_rfl) (by kernel_rfl) (fun _ _ _ h => h) (Or.inl ⟨by rfl, ?_⟩) (by assumption) ?_
              rotate_left
              · intro w hSw
                go_simp
                try with_reducible rfl
              simp only [Act.put, List.getElem_toArray, List.getElem_cons_zero, List.getElem_cons_succ, List.setIfInBounds_toArray, List.set_cons_zero, List.set_cons_succ]
              refine wpAnyH_ready (rs := [15]) (by kernel_rfl) (by simp) ?_
              refine AllReadyH.cons rfl (fun K hK => ?_) AllReadyH.nil
              go_simp
              refine hK.out _ _ trivial (fun hHeld => ?_)
              clear hK K e0 e1 e2 e3 e4 y0 y1 y2 y3 y4
              refine wpAnyH_done (by kernel_rfl) ?_ _
              go_wp2
              go_roundw
              case rel => exact ⟨q + 1, _, by go_num, QL.out, SW.out, LL2.out, MM2.out, BW.out⟩
              case measure => simp [intOf]; have := QL.out; omega
          · go_wp2
            go_roundw
            case rel => exact ⟨q + 1, l, by go_num, QL.out, ON.out, LL.out, MM.out, BV.out⟩
            case measure => simp [intOf]; have := QL.out; omega
        · have G2 := aside (G1.out.on BV.out)
          clear hq G1 BV HP
          go_wp2
          go_loopw [124] (fun i X => ∃ (q : Nat) (La : List En) (ca : Int) (Lb : List En) (cb : Int), i = .int .i64 (q : Int) ∧ q ≤ len ∧ TJ w X sa ga ta sb gb tb nd La ca Lb cb ∧ X.ownsRow V.heap.size 44 5 (.slice aL len cL) len (entCells l) ∧ Took (fun x => ∃ p, p < q ∧ x = T p) La ca ∧ Took (fun x => ∃ p, p < q ∧ x = nthE l p) Lb cb ∧ LdOk nd ca La ∧ LdOk nd cb Lb) (fun i _ => len - (intOf i).toNat)
          case atStart => exact ⟨0, [], 0, [], 0, rfl, Nat.zero_le _, G2.out, ON.out, Took.nil.of (fun x => by simp), Took.nil.of (fun x => by simp), O0.out, O0.out⟩
          case round =>
            clear G2 ON hlt
            obtain ⟨q, La, ca, Lb, cb, rfl, hq, htw, hon, hta, htb, hoa, hob⟩ := hrel
            by_cases hlt : (q : Int) < (len : Int)
            · rcases HE.out.2.2 with h0 | ⟨b, off, rfl, hb, hc⟩
              · omega
              obtain ⟨c0, c1, c2, c3, c4⟩ := (hc q (by omega)).1
              replace c0 := cell_in c0 htw.below
              replace c1 := cell_in c1 htw.below
              replace c2 := cell_in c2 htw.below
              replace c3 := cell_in c3 htw.below
              replace c4 := cell_in c4 htw.below
              have QL := aside (show q + 1 ≤ len from by omega)
              have hq0 : (0 : Int) ≤ (q : Int) := by omega
              have hqw : IntKind.i64.wrap ((q : Int) + 1) = (q : Int) + 1 := by rw [IntKind.wrap_i64]; omega
              have TA := aside (takeAI (T q) htw hoa hta)
              have TB := aside (fun (W : World) (La : List En) (ca : Int) (h : TJ w W sa ga ta sb gb tb nd La ca Lb cb) => takeBI (nthE l q) h hob htb)
              have ON := aside hon
              have HT := aside htw
              have EA : Hid (∀ x, ((∃ p, p < q ∧ x = T p) ∨ x = T q) ↔ ∃ p, p < q + 1 ∧ x = T p) := fun x => pre_succI (f := T)
              have EB : Hid (∀ x, ((∃ p, p < q ∧ x = nthE l p) ∨ x = nthE l q) ↔ ∃ p, p < q + 1 ∧ x = nthE l p) := fun x => pre_succI (f := fun p => nthE l p)
              generalize T q = x at c0 c1 c2 c3 c4 TA EA
              clear hc hb htw hq hon hta htb hoa hob
              go_wp2_with fail
              clear c0 c1 c2 c3 c4
              refine TA.out.mono ?_
              rintro e w4 ⟨bA, gA, La', ca', rfl, ht1, k1, ho1, tk1⟩
              have on1 := own_keepI ON.out k1 (fun i cs hi => HT.out.a.not hi (by decide) (by decide) (by decide))
              rcases HF.out with ⟨-, h0, -⟩ | ⟨g, rfl, hgb⟩
              · omega
              obtain ⟨d0, d1, d2, d3, d4⟩ := row_cells on1 (i := q) (by have := LL.out; have := QL.out; omega)
              have H1 := aside ht1
              have O1 := aside on1
              have K1 := aside tk1
              have P1 := aside ho1
              generalize nthE l q = y at d0 d1 d2 d3 d4 TB EB
              clear ht1 on1 tk1 k1 ho1 TA HT ON hgb
              go_wp2_with fail
              clear d0 d1 d2 d3 d4
              refine (TB.out _ _ _ H1.out).mono ?_
              rintro e w5 ⟨bB, gB, Lb', cb', rfl, ht1, k1, ho1, tk1⟩
              have H2 := aside ht1
              have O2 := aside (own_keepI O1.out k1 (fun i cs hi => H1.out.b.not hi (by decide) (by decide) (by decide)))
              have K2 := aside tk1
              have P2 := aside ho1
              clear ht1 k1 tk1 ho1 TB H1 O1
              by_cases hg1 : gA = 80
              · go_wp2
                go_ret
                exact ⟨rfl, H2.out.below⟩
              have hb1 : (gA == 80) = false := by simpa using hg1
              by_cases hg2 : gB = 80
              · go_wp2
                go_ret
                exact ⟨rfl, H2.out.below⟩
              have hb2 : (gB == 80) = false := by simpa using hg2
              have R1 := aside ((K1.out hg1).of EA.out)
              have R2 := aside ((K2.out hg2).of EB.out)
              clear K1 K2 EA EB
              go_wp2
              go_roundw
              case rel => exact ⟨q + 1, _, _, _, _, by go_num, QL.out, H2.out, O2.out, R1.out, R2.out, P1.out, P2.out⟩
              case measure => simp [intOf]; have := QL.out; omega
            · obtain rfl : len = q := by omega
              have TKB := aside (show Took (fun x => ∃ p, p < len ∧ x = T p) Lb cb from htb.of (fun x => ⟨fun ⟨p, h1, h2⟩ => (MM.out x).1 (by rw [h2]; exact List.mem_iff_getElem?.2 ⟨p, nthE_get (by rw [LL.out]; exact h1)⟩), fun h1 => by
                obtain ⟨i, hi⟩ := List.mem_iff_getElem?.1 ((MM.out x).2 h1)
                have hil : i < l.length := (List.getElem?_eq_some_iff.1 hi).1
                exact ⟨i, by rw [← LL.out]; exact hil, by rw [nthE_get hil] at hi; exact (Option.some.inj hi).symm⟩⟩))
              obtain ⟨e1, e2⟩ := hta.same TKB.out (by rintro x y ⟨p, h1, rfl⟩ ⟨p', h2, rfl⟩; exact NA.out p p' h1 h2)
              subst e1 e2
              have TW := aside htw
              have OKA := aside hoa
              clear htw hon hta htb hoa hob hq TKB NA HF
              go_wp2_with fail
              refine (imput TW.out.a OKA.out).mono ?_
              rintro e X1 ⟨va, rfl, oa, b1⟩
              have OA := aside oa
              replace TW := aside (TW.out.on b1)
              clear oa b1
              go_wp2_with fail
              refine (imput TW.out.b OKA.out).mono ?_
              rintro e X2 ⟨vb, rfl, ob, b2⟩
              have q1 := conv_own X2 _ va _ (own_on OA.out b2)
              have q2 := conv_own X2 _ vb _ ob
              replace TW := aside (TW.out.on b2)
              clear ob b2
              go_wp2
              go_ret
              exact ⟨rfl, TW.out.below⟩
end Go.Proofs.YtlbkcndmljlnmaaDoor

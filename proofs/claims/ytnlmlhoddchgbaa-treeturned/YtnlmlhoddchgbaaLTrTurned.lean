/-
  The law TreeTurned, walked.
-/
import Derived.Test.YtnlmlhoddchgbaaTrLasts
import Derived.Test.YtnlmlhoddchgbaaTrOpen2
namespace Go.Proofs.Ytnlmlhoddchgbaa
open Go.RowKit
set_option linter.unusedVariables false

/-- A row of the law's own, since V. -/
structure LW (V W : World) (v : Value) (l : List RowR) : Prop where
  own : W.ownsRow V.heap.size 64 4 v l.length (rowCells l)
  below : Below V.heap.size V W

theorem LW.on {V W W' : World} {v : Value} {l : List RowR} (h : LW V W v l) (b : Below W.heap.size W W') : LW V W' v l := ⟨own_on h.own b, bthen h.below b⟩

/-- The row of the law's own, its places changed about. -/
structure LX (V W : World) (v : Value) (m : Nat) (L l : List RowR) : Prop where
  own : W.ownsRow V.heap.size 64 4 v m (rowCells l)
  below : Below V.heap.size V W
  perm : l.Perm L
  len : l.length = m

theorem LX.drew {V W : World} {v : Value} {m : Nat} {L l : List RowR} (h : LX V W v m L l) : LX V W.drew v m L l := ⟨h.own.drew, h.below.drew, h.perm, h.len⟩

theorem LX.swap {V W : World} {g c m i k : Nat} {L l : List RowR} (h : LX V W (.slice (some ⟨g, 0, none⟩) m c) m L l) (hi : i < m) (hk : k < m) :
    LX V (putRow (putRow W g i (nthR l k)) g k (nthR l i)) (.slice (some ⟨g, 0, none⟩) m c) m L (swapR l i k) := by
  have hl := h.len
  have hg := (h.own.lt g rfl).1
  refine ⟨own_put (own_put h.own _ (by omega)) _ (by simp; omega), ?_, (swapR_perm l (by omega) (by omega)).trans h.perm, by rw [swapR_length]; exact hl⟩
  unfold putRow
  exact (((((((h.below.setCell hg _).setCell hg _).setCell hg _).setCell hg _).setCell hg _).setCell hg _).setCell hg _).setCell hg _

theorem tFold (i j : Int) {w W : World} {tb tc m : Nat} {A B : Tr Int Mp} {x : Mp} (h : GI w W tb A) (h2 : GI w W tc B) (g : Gd mSz A m) (hm : m ≤ 281474976710655) (e : Tr.fol mJoin mZero A i j = x) :
    Calls Try.prog 18 #[.pointer (some ⟨tb, 0, none⟩), .int .i64 i, .int .i64 j] W fun e w' => e = .returned (.agg #[.int .u64 x.a, .int .u64 x.b]) ∧ GI w w' tb A ∧ GI w w' tc B := by
  subst e
  exact (yfoldM i j h.tree bothRef (cnt_none 0 W) g hm).mono fun e w' ⟨h1, h2', h3⟩ => ⟨h1, h.on (keeps_none h3), h2.on (keeps_none h3)⟩

theorem tAt (q : Nat) {w W : World} {tb tc m : Nat} {A B : Tr Int Mp} {k : ByteArray} {v : Int} {n : Bool} (h : GI w W tb A) (h2 : GI w W tc B) (g : Gd mSz A m) (hm : m ≤ 281474976710655) (hq : (q : Int) ≤ 9223372036854775807) (e : (Tr.nth A (q : Int)).key = k ∧ (Tr.nth A (q : Int)).val 0 = v ∧ (Tr.nth A (q : Int)).isNil = n) :
    Calls Try.prog 21 #[.pointer (some ⟨tb, 0, none⟩), .int .i64 (q : Int)] W fun e w' => e = .returned (.tuple #[.string k, .int .i64 v, .bool (!n)]) ∧ GI w w' tb A ∧ GI w w' tc B := by
  obtain ⟨rfl, rfl, rfl⟩ := e
  exact (yatM (q : Int) h.tree g hm (by omega) hq).mono fun e w' ⟨h1, h2'⟩ => ⟨h1, h.on h2', h2.on h2'⟩

set_option maxHeartbeats 12800000 in
set_option maxRecDepth 100000 in
theorem turned_walk (a : Option Addr) (len cap : Nat) (T : Nat → RowR) (aP : Option Addr) (lenP capP : Nat) (TP : Nat → Int) (w : World) (h : RowsIn6 w a len cap T) (hP : IntsIn w aP lenP capP TP) :
    Calls Try.prog 6 #[.slice a len cap, .slice aP lenP capP] w fun e w' => e = .returned (.bool true) ∧ Below w.heap.size w w' := by
  have HO := aside h
  have HPP := aside hP
  have hmn := map_ne
  have HCC := aside (And.intro h.1 h.2.1)
  have HSZ := aside h.2.2.1
  have hmx : (len : Int) ≤ 9223372036854775807 := by have := h.2.2.1; omega
  have hpx : (lenP : Int) ≤ 9223372036854775807 := by have := hP.1; have := hP.2.1; unfold maxLen at *; omega
  have HV := aside (show ∀ i, i < len → I64 (T i).v from by
    intro i hi
    rcases h.2.2.2 with h0 | ⟨b, off, -, -, hc⟩
    · omega
    · exact (hc i hi).2)
  clear h hP
  go_enter Try.func6, Try.ntmps6
  go_wp2_with fail
  refine (shown_any _).mono ?_
  rintro e w1 ⟨rfl, b1⟩
  have B1 := aside b1
  clear b1
  go_wp2_with fail
  refine (grown_any a len cap T w1 (HO.out.keep B1.out)).mono ?_
  rintro e V ⟨tb, rfl, hg⟩
  have G2 := aside (⟨hg.tree, bthen B1.out hg.below, by have := B1.out.size; have := hg.lt; omega⟩ : GI w V tb (treeR T len))
  clear hg B1
  have S0 := aside (show LW V V (.slice none 0 0) (lst T len 0) from ⟨World.ownsRow_nil _ _ _ _, Below.refl _ _⟩)
  go_wp2
  go_loopw [6, 29] (fun v i wr => ∃ q : Nat, i = .int .i64 (q : Int) ∧ q ≤ len ∧ LW V wr v (lst T len q)) (fun _ i _ => len - (intOf i).toNat)
  case atStart => exact ⟨0, rfl, Nat.zero_le _, S0.out⟩
  case round =>
    clear S0
    obtain ⟨q, rfl, hq, S⟩ := hrel
    obtain ⟨aL, cL, rfl, hL1, hL2, -⟩ := own_slice S.own
    have HLN := aside (lst_length T len q)
    have HS := aside S
    clear S
    by_cases hlt : (q : Int) < (len : Int)
    · have HE := aside (show lst T len (q + 1) = lst T len q ++ (if agn T q (len - (q + 1)) then [] else [T q]) from rfl)
      generalize hL : lst T len q = L at *
      clear hL
      rcases (HO.out.keep (bthen G2.out.below HS.out.below)).2.2.2 with h0 | ⟨b, off, rfl, hbl, hc⟩
      · omega
      · have HC := aside hc
        obtain ⟨⟨c0, c1, c2, c3⟩, -⟩ := hc q (by omega)
        have HB := aside hbl
        clear hc hbl
        have hq0 : (0 : Int) ≤ (q : Int) := by omega
        have hqw : IntKind.i64.wrap ((q : Int) + 1) = (q : Int) + 1 := by rw [IntKind.wrap_i64]; omega
        have hq1 : (0 : Int) ≤ (q : Int) + 1 := by omega
        have hq2 : q + 1 ≤ len := by omega
        have hq3 : len ≤ cap := HCC.out.1
        obtain ⟨aT, haT⟩ : ∃ aT, (if cap = q + 1 then some (⟨b, off, none⟩ : Addr) else some ⟨b, off + (q + 1) * 4, none⟩) = aT := ⟨_, rfl⟩
        have HAT := aside (show q + 1 < len → aT = some ⟨b, off + (q + 1) * 4, none⟩ from fun hh => by rw [← haT, if_neg (by omega)])
        generalize hx : T q = x at *
        have HX := aside hx
        clear hx
        go_wp2
        have X0 := aside (heap_alloc_new wr (.cells #[.string x.key, .int .i64 x.v, .int .u64 x.s.a, .int .u64 x.s.b] 64))
        have BW := aside (bnew wr (.cells #[.string x.key, .int .i64 x.v, .int .u64 x.s.a, .int .u64 x.s.b] 64))
        have QL := aside hq2
        obtain ⟨N, hN⟩ : ∃ n, len - (q + 1) = n := ⟨_, rfl⟩
        rw [hN] at HE ⊢
        have HN := aside hN
        have hNx : (N : Int) ≤ 9223372036854775807 := by omega
        generalize (wr.alloc (.cells #[.string x.key, .int .i64 x.v, .int .u64 x.s.a, .int .u64 x.s.b] 64)) = W0 at *
        clear c0 c1 c2 c3 haT hN hq1 hq2 hq3 hlt hq
        generalize wr = Y at *
        go_loopw [9, 39] (fun v i X => ∃ j : Nat, i = .int .i64 (j : Int) ∧ j ≤ N ∧ v = .bool (agn T q j) ∧ Below W0.heap.size W0 X) (fun _ i _ => N - (intOf i).toNat)
        case atStart => exact ⟨0, rfl, Nat.zero_le _, rfl, Below.refl _ _⟩
        case round =>
          obtain ⟨j, rfl, hj, rfl, bX⟩ := hrel
          have BX := aside bX
          clear bX
          by_cases hjl : (j : Int) < (N : Int)
          · have hat := HAT.out (by have := HN.out; omega)
            subst hat
            obtain ⟨c0, c1, c2, c3⟩ := ((HC.out (q + 1 + j) (by have := HN.out; omega)).1.below (bthen BW.out BX.out) HB.out)
            have d0 : ∀ o, (wr.alloc o).cell? ⟨Y.heap.size, 0, none⟩ = some (.string x.key) := fun o => by
              have := blk_on (blk_on X0.out BX.out) (bnew wr o)
              simp [World.cell?, this]
            have HA := aside (show agn T q (j + 1) = (agn T q j || decide ((T (q + 1 + j)).key = x.key)) from by rw [← HX.out]; rfl)
            rw [show off + (q + 1 + j) * 4 = off + (q + 1) * 4 + j * 4 from by omega] at c0 c1 c2 c3
            generalize T (q + 1 + j) = y at *
            have hj0 : (0 : Int) ≤ (j : Int) := by omega
            have hjw : IntKind.i64.wrap ((j : Int) + 1) = (j : Int) + 1 := by rw [IntKind.wrap_i64]; omega
            have JL := aside (show j + 1 ≤ N from by omega)
            clear hj
            have BY := aside (bthen BX.out (bnew wr (.cells #[.string y.key, .int .i64 y.v, .int .u64 y.s.a, .int .u64 y.s.b] 64)))
            cases hag : agn T q j
            · rw [hag] at HA
              by_cases hk : y.key = x.key
              · rw [hk] at BY c0
                go_wp2
                go_roundw
                case rel => exact ⟨j + 1, by go_num, JL.out, by rw [HA.out]; simp [hk], BY.out⟩
                case measure => simp [intOf]; have := JL.out; omega
              · go_wp2
                go_roundw
                case rel => exact ⟨j + 1, by go_num, JL.out, by rw [HA.out]; simp [hk]; exact fun e => hk (toList_inj e), BY.out⟩
                case measure => simp [intOf]; have := JL.out; omega
            · rw [hag] at HA
              go_wp2
              go_roundw
              case rel => exact ⟨j + 1, by go_num, JL.out, by rw [HA.out]; rfl, BY.out⟩
              case measure => simp [intOf]; have := JL.out; omega
          · have hjN : j = N := by omega
            subst hjN
            have HS1 := aside (HS.out.on (bthen BW.out BX.out))
            have QW := aside hqw
            cases hag : agn T q j
            · rw [hag] at HE
              have hE : lst T len (q + 1) = L ++ [x] := HE.out
              have x1 := blk_on X0.out BX.out
              have d0 : wr.cell? ⟨Y.heap.size, 0, none⟩ = some (.string x.key) ∧ wr.cell? ⟨Y.heap.size, 1, none⟩ = some (.int .i64 x.v) ∧ wr.cell? ⟨Y.heap.size, 2, none⟩ = some (.int .u64 x.s.a) ∧ wr.cell? ⟨Y.heap.size, 3, none⟩ = some (.int .u64 x.s.b) := by
                simp [World.cell?, x1]
              obtain ⟨d0, d1, d2, d3⟩ := d0
              have HLZ := aside (show L.length * 40 ≤ 140737488351232 from by have := HLN.out; have := HSZ.out; have := QL.out; omega)
              have HVW := aside HS1.out.below.size
              clear x1
              go_wp2_with (at_builtin; refine wpList_plain rfl fun K hK => op_append_row _ _ rfl V.heap.size L.length (.slice aL L.length cL) L (by rfl) (HS1.out.own.alloc _) _ 1 x (by rfl) (heap_alloc_new _ _) HLZ.out (by have := HVW.out; simp; omega) ?_; intro g1 cc1 w1 own1 gr1; refine hK _ _ ?_; refine Hid.out ?_)
              refine aside ?_
              have NW : Hid (LW V w1 (.slice (some ⟨g1, 0, none⟩) (L.length + 1) cc1) (lst T len (q + 1))) := by
                rw [hE]
                refine ⟨?_, ?_⟩
                · rw [List.length_append]; exact own1
                · exact (HS1.out.below.alloc HVW.out _).grown gr1 (by have := HVW.out; simp; omega) (fun k hk => (HS1.out.own.lt k hk).1)
              clear own1 gr1 d0 d1 d2 d3 hE
              go_wp2
              go_roundw
              case rel => exact ⟨q + 1, by go_num, QL.out, NW.out⟩
              case measure => simp [intOf]; have := QL.out; omega
            · rw [hag] at HE
              have hE : lst T len (q + 1) = L := by rw [HE.out]; simp
              go_wp2
              go_roundw
              case rel => exact ⟨q + 1, by go_num, QL.out, by rw [hE]; exact HS1.out⟩
              case measure => simp [intOf]; have := QL.out; omega
    · have hql : len = q := by omega
      subst hql
      have HVL := aside (lst_vals HV.out len (Nat.le_refl _))
      obtain ⟨L, hL⟩ : ∃ L, lst T len len = L := ⟨_, rfl⟩
      rw [hL] at HS HLN HVL hL1 ⊢
      have HLL := aside hL
      obtain ⟨m, hm⟩ : ∃ m, L.length = m := ⟨_, rfl⟩
      have S1 := aside (show LX V wr (.slice aL L.length cL) m L L from ⟨hm ▸ HS.out.own, HS.out.below, List.Perm.refl _, hm⟩)
      rw [hm] at S1 HLN hL1 ⊢
      have hmm : (m : Int) ≤ 9223372036854775807 := by have := HLN.out; omega
      have HMM := aside (show (m : Int) ≤ 4611686018427387904 from by have := HLN.out; have := HSZ.out; omega)
      clear hL hm HS hlt hq hL1 hL2
      go_wp2
      go_loopw [61] (fun i X => ∃ q : Nat, i = .int .i64 (q : Int) ∧ q ≤ m ∧ ∃ l, LX V X (.slice aL m cL) m L l) (fun i _ => m - (intOf i).toNat)
      case atStart => exact ⟨0, rfl, Nat.zero_le _, L, S1.out⟩
      case round =>
        clear S1
        obtain ⟨q, rfl, hq, l, S⟩ := hrel
        have HS := aside S
        clear S
        by_cases hlt : (q : Int) < (m : Int)
        · have QL := aside (show q + 1 ≤ m from by omega)
          have hq0 : (0 : Int) ≤ (q : Int) := by omega
          have hqw : IntKind.i64.wrap ((q : Int) + 1) = (q : Int) + 1 := by rw [IntKind.wrap_i64]; omega
          by_cases hlp : (q : Int) < (lenP : Int)
          · rcases (HPP.out.keep (bthen G2.out.below HS.out.below)).2.2 with h0 | ⟨bP, offP, rfl, hbP, hcP⟩
            · omega
            · obtain ⟨cp, hpv⟩ := hcP q (by omega)
              have HPV := aside hpv
              obtain ⟨aa, cc, hv, -, -, hform⟩ := own_slice HS.out.own
              injection hv with e1 e2 e3
              subst e1 e3
              rcases hform with ⟨-, h0, -⟩ | ⟨g, rfl, hgb⟩
              · omega
              · clear hcP hbP hpv hgb
                generalize TP q = pq at *
                go_wp2_with fail
                refine (among_any pq (m : Int) _ HPV.out.1 HPV.out.2 HMM.out).mono ?_
                rintro e wx ⟨rfl, rfl⟩
                obtain ⟨k0, k1⟩ := amongI_lt (i := pq) (n := (m : Int)) (by omega)
                obtain ⟨k, hk⟩ := Int.eq_ofNat_of_zero_le k0
                rw [hk] at k0 k1 ⊢
                have S2 := aside HS.out.drew
                have SW := aside (HS.out.drew.swap (i := q) (k := k) (by omega) (by omega))
                have HKM := aside (show k < m from by omega)
                clear hk HS cp HPV
                go_wp2_with fail
                refine wp_region_held_drew (S := fun _ => True) (by kernel_rfl) trivial (fun hHeld => ?_)
                generalize wx.drew = X at *
                obtain ⟨c0, c1, c2, c3⟩ := row_at S2.out.own (i := k) (by have := S2.out.len; have := HKM.out; omega)
                obtain ⟨d0, d1, d2, d3⟩ := row_at S2.out.own (i := q) (by have := S2.out.len; omega)
                have z0 := S2.out.own.frozenAt (q * 4)
                have z1 := S2.out.own.frozenAt (q * 4 + 1)
                have z2 := S2.out.own.frozenAt (q * 4 + 2)
                have z3 := S2.out.own.frozenAt (q * 4 + 3)
                generalize hxk : nthR l k = xk at *
                generalize hxq : nthR l q = xq at *
                have HXK := aside hxk
                have HXQ := aside hxq
                clear hxk hxq
                obtain ⟨X1, hX1⟩ : ∃ Z, (((X.setCell ⟨g, q * 4, none⟩ (.string xk.key)).setCell ⟨g, q * 4 + 1, none⟩ (.int .i64 xk.v)).setCell ⟨g, q * 4 + 2, none⟩ (.int .u64 xk.s.a)).setCell ⟨g, q * 4 + 3, none⟩ (.int .u64 xk.s.b) = Z := ⟨_, rfl⟩
                have o1 := own_put S2.out.own xk (j := q) (by have := S2.out.len; omega)
                rw [show putRow X g q xk = X1 from hX1] at o1 SW
                obtain ⟨e0, e1, e2, e3⟩ := row_at o1 (i := k) (by have := S2.out.len; have := HKM.out; simp; omega)
                have y0 := o1.frozenAt (k * 4)
                have y1 := o1.frozenAt (k * 4 + 1)
                have y2 := o1.frozenAt (k * 4 + 2)
                have y3 := o1.frozenAt (k * 4 + 3)
                generalize nthR (l.set q xk) k = yk at *
                clear o1
                unfold putRow at SW
                refine wpAnyH_take (i := 0) (v := ?_) rfl (by kernel_rfl) (by kernel_rfl) (by kernel_rfl) (fun _ _ _ h => h) (Or.inl ⟨by rfl, ?_⟩) (by assumption) ?_
                rotate_left
                · intro w hSw
                  go_simp
                  try with_reducible rfl
                simp only [Act.put, List.getElem_toArray, List.getElem_cons_zero, List.setIfInBounds_toArray, List.set_cons_zero, List.set_cons_succ]
                refine wpAnyH_take (i := 1) (v := ?_) rfl (by kernel_rfl) (by kernel_rfl) (by kernel_rfl) (fun _ _ _ h => h) (Or.inl ⟨by rfl, ?_⟩) (by assumption) ?_
                rotate_left
                · intro w hSw
                  go_simp
                  try with_reducible rfl
                simp only [Act.put, List.getElem_toArray, List.getElem_cons_zero, List.getElem_cons_succ, List.setIfInBounds_toArray, List.set_cons_zero, List.set_cons_succ]
                refine wpAnyH_take (i := 2) (v := ?_) rfl (by kernel_rfl) (by kernel_rfl) (by kernel_rfl) (fun _ _ _ h => h) (Or.inl ⟨by rfl, ?_⟩) (by assumption) ?_
                rotate_left
                · intro w hSw
                  go_simp
                  try with_reducible rfl
                simp only [Act.put, List.getElem_toArray, List.getElem_cons_zero, List.getElem_cons_succ, List.setIfInBounds_toArray, List.set_cons_zero, List.set_cons_succ]
                refine wpAnyH_take (i := 3) (v := ?_) rfl (by kernel_rfl) (by kernel_rfl) (by kernel_rfl) (fun _ _ _ h => h) (Or.inl ⟨by rfl, ?_⟩) (by assumption) ?_
                rotate_left
                · intro w hSw
                  go_simp
                  try with_reducible rfl
                simp only [Act.put, List.getElem_toArray, List.getElem_cons_zero, List.getElem_cons_succ, List.setIfInBounds_toArray, List.set_cons_zero, List.set_cons_succ]
                refine wpAnyH_take (i := 4) (v := ?_) rfl (by kernel_rfl) (by kernel_rfl) (by kernel_rfl) (fun _ _ _ h => h) (Or.inl ⟨by rfl, ?_⟩) (by assumption) ?_
                rotate_left
                · intro w hSw
                  go_simp
                  try with_reducible rfl
                simp only [Act.put, List.getElem_toArray, List.getElem_cons_zero, List.getElem_cons_succ, List.setIfInBounds_toArray, List.set_cons_zero, List.set_cons_succ]
                refine wpAnyH_take (i := 5) (v := ?_) rfl (by kernel_rfl) (by kernel_rfl) (by kernel_rfl) (fun _ _ _ h => h) (Or.inl ⟨by rfl, ?_⟩) (by assumption) ?_
                rotate_left
                · intro w hSw
                  go_simp
                  try with_reducible rfl
                simp only [Act.put, List.getElem_toArray, List.getElem_cons_zero, List.getElem_cons_succ, List.setIfInBounds_toArray, List.set_cons_zero, List.set_cons_succ]
                refine wpAnyH_take (i := 6) (v := ?_) rfl (by kernel_rfl) (by kernel_rfl) (by kernel_rfl) (fun _ _ _ h => h) (Or.inl ⟨by rfl, ?_⟩) (by assumption) ?_
                rotate_left
                · intro w hSw
                  go_simp
                  try with_reducible rfl
                simp only [Act.put, List.getElem_toArray, List.getElem_cons_zero, List.getElem_cons_succ, List.setIfInBounds_toArray, List.set_cons_zero, List.set_cons_succ]
                refine wpAnyH_take (i := 8) (v := ?_) rfl (by kernel_rfl) (by kernel_rfl) (by kernel_rfl) (fun _ _ _ h => h) (Or.inl ⟨by rfl, ?_⟩) (by assumption) ?_
                rotate_left
                · intro w hSw
                  go_simp
                  try with_reducible rfl
                simp only [Act.put, List.getElem_toArray, List.getElem_cons_zero, List.getElem_cons_succ, List.setIfInBounds_toArray, List.set_cons_zero, List.set_cons_succ]
                refine wpAnyH_take (i := 9) (v := ?_) rfl (by kernel_rfl) (by kernel_rfl) (by kernel_rfl) (fun _ _ _ h => h) (Or.inl ⟨by rfl, ?_⟩) (by assumption) ?_
                rotate_left
                · intro w hSw
                  go_simp
                  try with_reducible rfl
                simp only [Act.put, List.getElem_toArray, List.getElem_cons_zero, List.getElem_cons_succ, List.setIfInBounds_toArray, List.set_cons_zero, List.set_cons_succ]
                refine wpAnyH_take (i := 10) (v := ?_) rfl (by kernel_rfl) (by kernel_rfl) (by kernel_rfl) (fun _ _ _ h => h) (Or.inl ⟨by rfl, ?_⟩) (by assumption) ?_
                rotate_left
                · intro w hSw
                  go_simp
                  try with_reducible rfl
                simp only [Act.put, List.getElem_toArray, List.getElem_cons_zero, List.getElem_cons_succ, List.setIfInBounds_toArray, List.set_cons_zero, List.set_cons_succ]
                refine wpAnyH_ready (rs := [7, 11]) (by kernel_rfl) (by simp) ?_
                refine AllReadyH.cons rfl (fun K hK => ?_) (AllReadyH.cons rfl (fun K hK => ?_) AllReadyH.nil)
                · go_simp
                  refine hK.out _ _ trivial (fun hHeld => ?_)
                  clear hK K
                  refine wpAnyH_ready (rs := [11]) (by kernel_rfl) (by simp) ?_
                  refine AllReadyH.cons rfl (fun K hK => ?_) AllReadyH.nil
                  go_simp
                  refine hK.out _ _ trivial (fun hHeld => ?_)
                  clear hK K
                  refine wpAnyH_take (i := 12) (v := ?_) rfl (by kernel_rfl) (by kernel_rfl) (by kernel_rfl) (fun _ _ _ h => h) (Or.inl ⟨by rfl, ?_⟩) (by assumption) ?_
                  rotate_left
                  · intro w hSw
                    go_simp
                    try with_reducible rfl
                  simp only [Act.put, List.getElem_toArray, List.getElem_cons_zero, List.getElem_cons_succ, List.setIfInBounds_toArray, List.set_cons_zero, List.set_cons_succ]
                  refine wpAnyH_ready (rs := [13]) (by kernel_rfl) (by simp) ?_
                  refine AllReadyH.cons rfl (fun K hK => ?_) AllReadyH.nil
                  go_simp
                  refine hK.out _ _ trivial (fun hHeld => ?_)
                  clear hK K c0 c1 c2 c3 d0 d1 d2 d3 z0 z1 z2 z3 hX1
                  refine wpAnyH_take (i := 14) (v := ?_) rfl (by kernel_rfl) (by kernel_rfl) (by kernel_rfl) (fun _ _ _ h => h) (Or.inl ⟨by rfl, ?_⟩) (by assumption) ?_
                  rotate_left
                  · intro w hSw
                    go_simp
                    try with_reducible rfl
                  simp only [Act.put, List.getElem_toArray, List.getElem_cons_zero, List.getElem_cons_succ, List.setIfInBounds_toArray, List.set_cons_zero, List.set_cons_succ]
                  refine wpAnyH_ready (rs := [15]) (by kernel_rfl) (by simp) ?_
                  refine AllReadyH.cons rfl (fun K hK => ?_) AllReadyH.nil
                  go_simp
                  refine hK.out _ _ trivial (fun hHeld => ?_)
                  clear hK K e0 e1 e2 e3 y0 y1 y2 y3
                  refine wpAnyH_done (by kernel_rfl) ?_ _
                  go_wp2
                  go_roundw
                  case rel => exact ⟨q + 1, by go_num, QL.out, _, SW.out⟩
                  case measure => simp [intOf]; have := QL.out; omega
                · go_simp
                  refine hK.out _ _ trivial (fun hHeld => ?_)
                  clear hK K
                  refine wpAnyH_ready (rs := [7]) (by kernel_rfl) (by simp) ?_
                  refine AllReadyH.cons rfl (fun K hK => ?_) AllReadyH.nil
                  go_simp
                  refine hK.out _ _ trivial (fun hHeld => ?_)
                  clear hK K
                  refine wpAnyH_take (i := 12) (v := ?_) rfl (by kernel_rfl) (by kernel_rfl) (by kernel_rfl) (fun _ _ _ h => h) (Or.inl ⟨by rfl, ?_⟩) (by assumption) ?_
                  rotate_left
                  · intro w hSw
                    go_simp
                    try with_reducible rfl
                  simp only [Act.put, List.getElem_toArray, List.getElem_cons_zero, List.getElem_cons_succ, List.setIfInBounds_toArray, List.set_cons_zero, List.set_cons_succ]
                  refine wpAnyH_ready (rs := [13]) (by kernel_rfl) (by simp) ?_
                  refine AllReadyH.cons rfl (fun K hK => ?_) AllReadyH.nil
                  go_simp
                  refine hK.out _ _ trivial (fun hHeld => ?_)
                  clear hK K c0 c1 c2 c3 d0 d1 d2 d3 z0 z1 z2 z3 hX1
                  refine wpAnyH_take (i := 14) (v := ?_) rfl (by kernel_rfl) (by kernel_rfl) (by kernel_rfl) (fun _ _ _ h => h) (Or.inl ⟨by rfl, ?_⟩) (by assumption) ?_
                  rotate_left
                  · intro w hSw
                    go_simp
                    try with_reducible rfl
                  simp only [Act.put, List.getElem_toArray, List.getElem_cons_zero, List.getElem_cons_succ, List.setIfInBounds_toArray, List.set_cons_zero, List.set_cons_succ]
                  refine wpAnyH_ready (rs := [15]) (by kernel_rfl) (by simp) ?_
                  refine AllReadyH.cons rfl (fun K hK => ?_) AllReadyH.nil
                  go_simp
                  refine hK.out _ _ trivial (fun hHeld => ?_)
                  clear hK K e0 e1 e2 e3 y0 y1 y2 y3
                  refine wpAnyH_done (by kernel_rfl) ?_ _
                  go_wp2
                  go_roundw
                  case rel => exact ⟨q + 1, by go_num, QL.out, _, SW.out⟩
                  case measure => simp [intOf]; have := QL.out; omega
          · go_wp2
            go_roundw
            case rel => exact ⟨q + 1, by go_num, QL.out, l, HS.out⟩
            case measure => simp [intOf]; have := QL.out; omega
        · have hqm : m = q := by omega
          subst hqm
          have HW := aside (show ValsOk l from fun e he => HVL.out e (HS.out.perm.mem_iff.1 he))
          have HTR := aside (turned_rows T (n := len) HS.out.len (HLL.out ▸ HS.out.perm))
          go_wp2_with fail
          refine (grown_any aL m cL (nthR l) wr (rows_of_row HS.out.own HW.out (by have := HLN.out; have := HSZ.out; omega))).mono ?_
          rintro e W2 ⟨tc, rfl, hg⟩
          have GA := aside ((G2.out.on HS.out.below).on hg.below)
          have GB := aside (⟨hg.tree, bthen (G2.out.on HS.out.below).below hg.below, by have := (G2.out.on HS.out.below).below.size; have := hg.lt; omega⟩ : GI w W2 tc (treeR (nthR l) m))
          have GDA := aside (treeR_gd T len)
          have GDB := aside (treeR_gd (nthR l) m)
          have HR := aside HTR.out.1
          have hcB := HTR.out.2
          have hcA : (treeR T len).cnt = m := by rw [← same_cnt HTR.out.1]; exact hcB
          have HLA := aside (show len ≤ 281474976710655 from by have := HSZ.out; omega)
          have HLB := aside (show m ≤ 281474976710655 from by have := HLN.out; have := HSZ.out; omega)
          clear hg HTR HS HW G2 hlt hq
          generalize treeR T len = A at *
          generalize treeR (nthR l) m = B at *
          have CA := aside (fun W (h : GI w W tb A) => hcA ▸ ylenM h.tree)
          have CB := aside (fun W (h : GI w W tc B) => hcB ▸ ylenM h.tree)
          clear hcA hcB
          go_wp2_with fail
          refine (CA.out _ GA.out).mono ?_
          rintro e w3 ⟨rfl, rfl⟩
          go_wp2_with fail
          refine (CB.out _ GB.out).mono ?_
          rintro e w4 ⟨rfl, rfl⟩
          clear CA CB
          go_wp2
          go_loopw [16] (fun i X => ∃ q : Nat, i = .int .i64 (q : Int) ∧ q ≤ m + 1 ∧ GI w X tb A ∧ GI w X tc B) (fun i _ => m + 1 - (intOf i).toNat)
          case atStart => exact ⟨0, rfl, Nat.zero_le _, GA.out, GB.out⟩
          case round =>
            clear GA GB
            obtain ⟨q, rfl, hq, ga, gb⟩ := hrel
            have GA := aside ga
            have GB := aside gb
            clear ga gb
            by_cases hle : (q : Int) ≤ (m : Int)
            · have QL := aside (show q + 1 ≤ m + 1 from by omega)
              have hqw : IntKind.i64.wrap ((q : Int) + 1) = (q : Int) + 1 := by rw [IntKind.wrap_i64]; have := HLB.out; omega
              have hqx : (q : Int) ≤ 9223372036854775807 := by omega
              obtain ⟨s1, s2, s3⟩ := same_nth HR.out q
              have t1 := same_fol HR.out 0 (q : Int)
              have t2 := same_fol HR.out (q : Int) (m : Int)
              obtain ⟨kk, e1⟩ : ∃ x, (Tr.nth A (q : Int)).key = x := ⟨_, rfl⟩
              obtain ⟨vv, e2⟩ : ∃ x, (Tr.nth A (q : Int)).val 0 = x := ⟨_, rfl⟩
              obtain ⟨nn, e3⟩ : ∃ x, (Tr.nth A (q : Int)).isNil = x := ⟨_, rfl⟩
              obtain ⟨f1, e4⟩ : ∃ x, Tr.fol mJoin mZero A 0 (q : Int) = x := ⟨_, rfl⟩
              obtain ⟨f2, e5⟩ : ∃ x, Tr.fol mJoin mZero A (q : Int) (m : Int) = x := ⟨_, rfl⟩
              have hm1 := HLA.out
              have hm2 := HLB.out
              have C1 := aside (fun W (h : GI w W tb A) (h2 : GI w W tc B) => tAt q h h2 GDA.out hm1 hqx ⟨e1, e2, e3⟩)
              have C2 := aside (fun W (h : GI w W tb A) (h2 : GI w W tc B) => tAt q h2 h GDB.out hm2 hqx ⟨s1.trans e1, s2.trans e2, s3.trans e3⟩)
              have C3 := aside (fun W (h : GI w W tb A) (h2 : GI w W tc B) => tFold 0 (q : Int) h h2 GDA.out hm1 e4)
              have C4 := aside (fun W (h : GI w W tb A) (h2 : GI w W tc B) => tFold 0 (q : Int) h2 h GDB.out hm2 (t1.trans e4))
              have C5 := aside (fun W (h : GI w W tb A) (h2 : GI w W tc B) => tFold (q : Int) (m : Int) h h2 GDA.out hm1 e5)
              have C6 := aside (fun W (h : GI w W tb A) (h2 : GI w W tc B) => tFold (q : Int) (m : Int) h2 h GDB.out hm2 (t2.trans e5))
              clear s1 s2 s3 t1 t2 e1 e2 e3 e4 e5 hm1 hm2 hq hqx
              go_wp2_with fail
              refine (C1.out _ GA.out GB.out).mono ?_
              rintro e v1 ⟨rfl, ga, gb⟩
              have GA1 := aside ga
              have GB1 := aside gb
              clear ga gb GA GB C1
              go_wp2_with fail
              refine (C2.out _ GA1.out GB1.out).mono ?_
              rintro e v2 ⟨rfl, gb, ga⟩
              have GA2 := aside ga
              have GB2 := aside gb
              clear ga gb GA1 GB1 C2
              go_wp2_with fail
              refine (C3.out _ GA2.out GB2.out).mono ?_
              rintro e v3 ⟨rfl, ga, gb⟩
              have GA3 := aside ga
              have GB3 := aside gb
              clear ga gb GA2 GB2 C3
              go_wp2_with fail
              refine (C4.out _ GA3.out GB3.out).mono ?_
              rintro e v4 ⟨rfl, gb, ga⟩
              have GA4 := aside ga
              have GB4 := aside gb
              clear ga gb GA3 GB3 C4
              go_wp2_with fail
              refine (C5.out _ GA4.out GB4.out).mono ?_
              rintro e v5 ⟨rfl, ga, gb⟩
              have GA5 := aside ga
              have GB5 := aside gb
              clear ga gb GA4 GB4 C5
              go_wp2_with fail
              refine (C6.out _ GA5.out GB5.out).mono ?_
              rintro e v6 ⟨rfl, gb, ga⟩
              have GA6 := aside ga
              have GB6 := aside gb
              clear ga gb GA5 GB5 C6
              go_wp2
              go_roundw
              case rel => exact ⟨q + 1, by go_num, QL.out, GA6.out, GB6.out⟩
              case measure => simp [intOf]; have := QL.out; omega
            · go_wp2
              go_ret
              exact ⟨rfl, GA.out.below⟩

end Go.Proofs.Ytnlmlhoddchgbaa

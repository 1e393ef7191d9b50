/-
  Proved: for every list of entries and every list of numbers the law StoreTurned returns true and leaves its arguments as they were: entries taken in another order make the same store, and what was taken is not taken again. The card ties the listed table of lanes to the text of the program (a pruned copy: see the seat), and says nothing of other packages. No condition of its own.
  The law StoreTurned, walked.
-/
import Derived.Test.YtlgcdcjhflihiaaDoorBstoreturned10
import Derived.Deep.LoopGhost
import Derived.Test.YtlgcdcjhflihiaaDoorCards
import Derived.Test.YtlgcdcjhflihiaaDoorTie
import Derived.Test.YtlgcdcjhflihiaaDoorBstoreturned1
import Derived.LaidMore
import Derived.MakeChecks
import Derived.Stop.Joined
import Derived.ChangeMaps5
import Derived.Lay
namespace Go.Proofs.YtlgcdcjhflihiaaDoor
open Go.RowKit
set_option linter.unusedVariables false

theorem pre_succ {x : En} {q : Nat} {f : Nat → En} : ((∃ p, p < q ∧ x = f p) ∨ x = f q) ↔ ∃ p, p < q + 1 ∧ x = f p := by
  constructor
  · rintro (⟨p, h1, h2⟩ | h2)
    · exact ⟨p, by omega, h2⟩
    · exact ⟨q, by omega, h2⟩
  · rintro ⟨p, h1, h2⟩
    by_cases h3 : p = q
    · subst h3; exact .inr h2
    · exact .inl ⟨p, by omega, h2⟩

theorem ten {W : World} {B B2 g g2 n cap cap2 : Nat} {l : List En} (h : W.ownsRow B 39 5 (.slice (some ⟨g, 0, none⟩) n cap) n (entCells l)) (h2 : W.ownsRow B2 39 5 (.slice (some ⟨g2, 0, none⟩) n cap2) n (entCells l)) {i : Nat} (hi : i < l.length) :
    W.cell? ⟨g, i * 5, none⟩ = some (.string (nthE l i).k) ∧ W.cell? ⟨g, i * 5 + 1, none⟩ = some (.int .i64 (nthE l i).c) ∧ W.cell? ⟨g, i * 5 + 2, none⟩ = some (.int .i64 (nthE l i).n) ∧ W.cell? ⟨g, i * 5 + 3, none⟩ = some (.string (nthE l i).v) ∧ W.cell? ⟨g, i * 5 + 4, none⟩ = some (.bool (nthE l i).d) ∧ W.cell? ⟨g2, i * 5, none⟩ = some (.string (nthE l i).k) ∧ W.cell? ⟨g2, i * 5 + 1, none⟩ = some (.int .i64 (nthE l i).c) ∧ W.cell? ⟨g2, i * 5 + 2, none⟩ = some (.int .i64 (nthE l i).n) ∧ W.cell? ⟨g2, i * 5 + 3, none⟩ = some (.string (nthE l i).v) ∧ W.cell? ⟨g2, i * 5 + 4, none⟩ = some (.bool (nthE l i).d) := by
  obtain ⟨a0, a1, a2, a3, a4⟩ := row_cells h hi
  obtain ⟨b0, b1, b2, b3, b4⟩ := row_cells h2 hi
  exact ⟨a0, a1, a2, a3, a4, b0, b1, b2, b3, b4⟩

theorem node0 : nodeB 0 = true := by decide
theorem node5 : nodeB 5 = true := by decide

set_option maxHeartbeats 32000000 in
set_option maxRecDepth 100000 in
theorem lstturned_walk (a : Option Addr) (len cap : Nat) (T : Nat → En) (aP : Option Addr) (lenP capP : Nat) (TP : Nat → Int) (w : World) (L : Lanes w) (hE : EntsIn w a len cap T) (hz : len * 56 ≤ 140737488351232) (hP : IntsIn w aP lenP capP TP) :
    Calls Tryd.prog 6 #[.slice a len cap, .slice aP lenP capP] w fun e w' => e = .returned (.bool true) ∧ Below w.heap.size w w' := by
  have HE := aside hE
  have HP := aside hP
  have HL := aside L
  have HZ := aside hz
  have C0 := aside (shown_any w L)
  have CN := aside (fun (W : World) => qnew 0 W)
  have CM := aside (fun (W : World) => qnew 5 W)
  have hmx : (len : Int) ≤ 9223372036854775807 := by omega
  have hcx : (cap : Int) ≤ 9223372036854775807 := by have := hE.2.1; unfold maxLen at this; omega
  have hlc : (len : Int) ≤ (cap : Int) := by have := hE.1; omega
  have hmx2 : (lenP : Int) ≤ 9223372036854775807 := by have := hP.1; have := hP.2.1; unfold maxLen at *; omega
  clear hE hP L hz
  go_enter Tryd.func6, Tryd.ntmps6
  go_wp2_with fail
  refine C0.out.mono ?_
  rintro e w0 ⟨rfl, b0⟩
  have B0 := aside b0
  clear b0 C0
  go_wp2_with fail
  refine (CN.out _).mono ?_
  rintro e w1 ⟨b1, ⟨hn, -⟩ | ⟨hn, sa, ga, ta, rfl, hsa, l1, l2, l3⟩⟩
  · rw [node0] at hn; cases hn
  have SA := aside hsa
  have LA := aside (And.intro l1 (And.intro l2 l3))
  have B1 := aside b1
  clear b1 hn hsa l1 l2 l3 CN
  go_wp2_with fail
  refine (CM.out _).mono ?_
  rintro e w2 ⟨b1, ⟨hn, -⟩ | ⟨hn, sb, gb, tb, rfl, hsb, l1, l2, l3⟩⟩
  · rw [node5] at hn; cases hn
  have G0 := aside (⟨SA.out.below b1, hsb, HL.out.keep (bthen B0.out (bthen B1.out b1)), bthen B0.out (bthen B1.out b1), by have := LA.out; have := B0.out.size; omega, by have := B0.out.size; have := B1.out.size; omega, by have := SA.out.lt; omega⟩ : TW w w2 sa ga ta sb gb tb [] 0 [] 0)
  clear b1 hn hsb l1 l2 l3 CM SA LA B1 B0
  go_wp2
  go_loopw [61] (fun i wr => ∃ q : Nat, i = .int .i64 (q : Int) ∧ q ≤ len ∧ TW w wr sa ga ta sb gb tb [] 0 [] 0 ∧ NoTw T q 0) (fun i _ => len - (intOf i).toNat)
  case atStart => exact ⟨0, rfl, Nat.zero_le _, G0.out, NoTw.nil T⟩
  case round =>
    obtain ⟨q, rfl, hq, htw, hno⟩ := hrel
    clear G0
    have G0 := aside htw
    have NO := aside hno
    clear hno
    by_cases hlt : (q : Int) < (len : Int)
    · rcases HE.out.2.2 with h0 | ⟨b, off, rfl, hb, hc⟩
      · omega
      · have HC := aside hc
        obtain ⟨c0, c1, c2, c3, c4⟩ := (hc q (by omega)).1
        replace c0 := cell_in c0 htw.below
        replace c1 := cell_in c1 htw.below
        replace c2 := cell_in c2 htw.below
        replace c3 := cell_in c3 htw.below
        replace c4 := cell_in c4 htw.below
        obtain ⟨x, hx⟩ : ∃ x, T q = x := ⟨_, rfl⟩
        rw [hx] at c0 c1 c2 c3 c4
        have HX := aside hx
        have QL := aside (show q + 1 ≤ len from by omega)
        have hq0 : (0 : Int) ≤ (q : Int) := by omega
        have hqc : (q : Int) ≤ (cap : Int) := by omega
        have hqw : IntKind.i64.wrap ((q : Int) + 1) = (q : Int) + 1 := by rw [IntKind.wrap_i64]; omega
        have G1 := aside (htw.on (bnew wr (.cells #[.string x.k, .int .i64 x.c, .int .i64 x.n, .string x.v, .bool x.d] 39)))
        have X1 := aside (heap_alloc_new wr (.cells #[.string x.k, .int .i64 x.c, .int .i64 x.n, .string x.v, .bool x.d] 39))
        clear hc hb hx htw hq G0
        go_wp2
        clear c0 c1 c2 c3 c4
        generalize wr.alloc (.cells #[.string x.k, .int .i64 x.c, .int .i64 x.n, .string x.v, .bool x.d] 39) = V at *
        generalize wr.heap.size = bx at *
        go_loopw [70] (fun i X => ∃ k : Nat, i = .int .i64 (k : Int) ∧ k ≤ q ∧ Below V.heap.size V X ∧ NoTw T q k) (fun i _ => q - (intOf i).toNat)
        case atStart => exact ⟨0, rfl, Nat.zero_le _, Below.refl _ _, NO.out⟩
        case round =>
          obtain ⟨k, rfl, hk, hbl, hno⟩ := hrel
          clear NO
          have NO := aside hno
          have BV := aside hbl
          clear hno
          by_cases hlt2 : (k : Int) < (q : Int)
          · obtain ⟨c0, c1, c2, c3, c4⟩ := (HC.out k (by have := QL.out; omega)).1
            have hbb := (G1.out.on hbl).below
            replace c0 := cell_in c0 hbb
            replace c1 := cell_in c1 hbb
            replace c2 := cell_in c2 hbb
            replace c3 := cell_in c3 hbb
            replace c4 := cell_in c4 hbb
            obtain ⟨y, hy⟩ : ∃ y, T k = y := ⟨_, rfl⟩
            rw [hy] at c0 c1 c2 c3 c4
            have HY := aside hy
            have KL := aside (show k + 1 ≤ q from by omega)
            have hk0 : (0 : Int) ≤ (k : Int) := by omega
            have hkw : IntKind.i64.wrap ((k : Int) + 1) = (k : Int) + 1 := by rw [IntKind.wrap_i64]; have := QL.out; omega
            have Y1 := aside (heap_alloc_new wr (.cells #[.string y.k, .int .i64 y.c, .int .i64 y.n, .string y.v, .bool y.d] 39))
            have Z1 := aside (blk_on (blk_on X1.out hbl) (bnew wr (.cells #[.string y.k, .int .i64 y.c, .int .i64 y.n, .string y.v, .bool y.d] 39)))
            have BW := aside (bthen hbl (bnew wr (.cells #[.string y.k, .int .i64 y.c, .int .i64 y.n, .string y.v, .bool y.d] 39)))
            clear hy hbl hbb hk BV
            obtain ⟨x0, x1, x2, x3, x4⟩ := quint Z1.out
            obtain ⟨y0, y1, y2, y3, y4⟩ := quint Y1.out
            have hvr := verq_run
            have hen := ent_ne
            cases hk1 : (x.k.toList == y.k.toList)
            · have NX := aside (NO.out.next (by rw [HX.out, HY.out]; intro e1 _ _; rw [e1] at hk1; simp at hk1))
              go_wp2
              go_roundw
              case rel => exact ⟨k + 1, by go_num, KL.out, BW.out, NX.out⟩
              case measure => simp [intOf]; have := KL.out; omega
            · cases hk2 : (x.c == y.c && x.n == y.n)
              · have NX := aside (NO.out.next (by rw [HX.out, HY.out]; intro _ e2 e3; rw [e2, e3] at hk2; simp at hk2))
                go_wp2
                go_roundw
                case rel => exact ⟨k + 1, by go_num, KL.out, BW.out, NX.out⟩
                case measure => simp [intOf]; have := KL.out; omega
              · cases hk3 : enEqB x y
                · go_wp2
                  go_ret
                  exact ⟨rfl, (G1.out.on BW.out).below⟩
                · have NX := aside (NO.out.next (by rw [HX.out, HY.out]; intro _ _ _; exact (enEqB_iff x y).1 hk3))
                  go_wp2
                  go_roundw
                  case rel => exact ⟨k + 1, by go_num, KL.out, BW.out, NX.out⟩
                  case measure => simp [intOf]; have := KL.out; omega
          · have hkq : k = q := by omega
            subst hkq
            go_wp2
            go_roundw
            case rel => exact ⟨k + 1, by go_num, QL.out, G1.out.on BV.out, NO.out.row⟩
            case measure => simp [intOf]; have := QL.out; omega
    · obtain rfl : len = q := by omega
      have NA := aside NO.out.all
      clear hq NO htw
      go_wp2
      generalize wr = V at *
      go_loopw [13, 95] (fun v i X => ∃ q : Nat, i = .int .i64 (q : Int) ∧ q ≤ len ∧ LN V X v q (List.range q)) (fun _ i _ => len - (intOf i).toNat)
      case atStart => exact ⟨0, rfl, Nat.zero_le _, ⟨⟨rfl, .inl ⟨rfl, rfl⟩⟩, Below.refl _ _, rfl⟩⟩
      case round =>
        obtain ⟨q, rfl, hq, hln⟩ := hrel
        obtain ⟨aL, cL, rfl, hc1, hc2, hform⟩ := own_slc hln.own
        have HS := aside hln
        by_cases hlt : (q : Int) < (len : Int)
        · have QL := aside (show q + 1 ≤ len from by omega)
          have hq0 : (0 : Int) ≤ (q : Int) := by omega
          have hqw : IntKind.i64.wrap ((q : Int) + 1) = (q : Int) + 1 := by rw [IntKind.wrap_i64]; omega
          have HLZ := aside (show q * 56 ≤ 140737488351232 from by have := HZ.out; omega)
          have HVW := aside hln.below.size
          clear hln hc1 hc2 hform hq
          go_wp2_with (at_builtin; refine wpList_plain rfl fun K hK => op_append_num _ _ rfl V.heap.size q (.slice aL q cL) (List.range q) (by rfl) (HS.out.own.alloc _) _ 1 q (by rfl) (heap_alloc_new _ _) HLZ.out (by have := HVW.out; simp; omega) ?_; intro g1 cc1 w1 own1 gr1; refine hK _ _ ?_; refine Hid.out ?_)
          refine aside ?_
          have NW : Hid (LN V w1 (.slice (some ⟨g1, 0, none⟩) (q + 1) cc1) (q + 1) (List.range (q + 1))) := by
            rw [List.range_succ]
            refine ⟨own1, ?_, by simp⟩
            exact (HS.out.below.alloc HVW.out _).grown gr1 (by have := HVW.out; simp; omega) (fun k hk => (HS.out.own.lt k hk).1)
          clear own1 gr1
          go_wp2
          go_roundw
          case rel => exact ⟨q + 1, by go_num, QL.out, NW.out⟩
          case measure => simp [intOf]; have := QL.out; omega
        · obtain rfl : len = q := by omega
          have S1 := aside (show LN V wr (.slice aL len cL) len (List.range len) from hln)
          have HF := aside hform
          have hcL : (len : Int) ≤ (cL : Int) := by omega
          have hcL2 : (cL : Int) ≤ 9223372036854775807 := by unfold maxLen at hc2; omega
          clear hln hform hq HS hc1 hc2 hlt
          go_wp2
          go_loopw [105] (fun i X => ∃ q : Nat, i = .int .i64 (q : Int) ∧ q ≤ len ∧ ∃ l, LN V X (.slice aL len cL) len l ∧ AllOf l len) (fun i _ => len - (intOf i).toNat)
          case atStart => exact ⟨0, rfl, Nat.zero_le _, _, S1.out, AllOf.range len⟩
          case round =>
            clear S1
            obtain ⟨q, rfl, hq, l, hln, hal⟩ := hrel
            have HS := aside hln
            have AL := aside hal
            by_cases hlt : (q : Int) < (len : Int)
            · have QL := aside (show q + 1 ≤ len from by omega)
              have hq0 : (0 : Int) ≤ (q : Int) := by omega
              have hqw : IntKind.i64.wrap ((q : Int) + 1) = (q : Int) + 1 := by rw [IntKind.wrap_i64]; omega
              by_cases hlp : (q : Int) < (lenP : Int)
              · rcases HP.out.2.2 with h0 | ⟨bP, offP, rfl, hbP, hcP⟩
                · omega
                · have cp := cell_in (hcP q (by omega)) (G0.out.on hln.below).below
                  rcases HF.out with ⟨-, h0, -⟩ | ⟨g, rfl, hgb⟩
                  · omega
                  · have CA := aside (fun (W : World) => among8 (TP q) len W (by omega) (by omega))
                    generalize TP q = pq at *
                    clear hcP hbP hgb hln hal hq
                    go_wp2_with fail
                    refine (CA.out _).mono ?_
                    rintro e wx ⟨k, rfl, hkl, rfl⟩
                    have S2 := aside HS.out.drew
                    have SW := aside (HS.out.drew.swap (i := q) (k := k))
                    have AW := aside (AL.out.swap (i := q) (k := k) (by omega) hkl)
                    have hk0 : (0 : Int) ≤ (k : Int) := by omega
                    have hkl2 : (k : Int) < (len : Int) := by omega
                    have c0 := num_at S2.out.own (i := k) (by have := S2.out.len; omega)
                    have d0 := num_at S2.out.own (i := q) (by have := S2.out.len; omega)
                    have z0 := S2.out.own.frozenAt q
                    have o1 := num_put (j := q) (i := nthN l k) S2.out.own
                    have e0 := num_at o1 (i := k) (by have := S2.out.len; simp; omega)
                    have y0 := o1.frozenAt k
                    clear HS cp CA o1 hkl
                    go_wp2_with fail
                    refine wp_region_held_drew (S := fun _ => True) (by kernel_rfl) trivial (fun hHeld => ?_)
                    generalize World.drew _ = X at *
                    generalize (nthN l k : Int) = xk at *
                    generalize (nthN l q : Int) = xq at *
                    obtain ⟨X1, hX1⟩ : ∃ Z, X.setCell ⟨g, q, none⟩ (.int .i64 xk) = Z := ⟨_, rfl⟩
                    rw [hX1] at e0 y0 SW
                    generalize (nthN (l.set q (nthN l k)) k : Int) = yk at *
                    refine wpAnyH_take (i := 0) (v := ?_) rfl (by kernel_rfl) (by kernel_rfl) (by kernel_rfl) (fun _ _ _ h => h) (Or.inl ⟨by rfl, ?_⟩) (by assumption) ?_
                    rotate_left
                    · intro w hSw
                      go_simp
                      try with_reducible rfl
                    simp only [Act.put, List.getElem_toArray, List.getElem_cons_zero, List.setIfInBounds_toArray, List.set_cons_zero, List.set_cons_succ]
                    refine wpAnyH_take (i := 1) (v := ?_) rfl (by kernel_rfl) (by kernel_rfl) (by kernel_rfl) (fun _ _ _ h => h) (Or.inl ⟨by rfl, ?_⟩) (by assumption) ?_
                    rotate_left
                    · intro w hSw
                      go_simp
                      try with_reducible rfl
                    simp only [Act.put, List.getElem_toArray, List.getElem_cons_zero, List.getElem_cons_succ, List.setIfInBounds_toArray, List.set_cons_zero, List.set_cons_succ]
                    refine wpAnyH_take (i := 2) (v := ?_) rfl (by kernel_rfl) (by kernel_rfl) (by kernel_rfl) (fun _ _ _ h => h) (Or.inl ⟨by rfl, ?_⟩) (by assumption) ?_
                    rotate_left
                    · intro w hSw
                      go_simp
                      try with_reducible rfl
                    simp only [Act.put, List.getElem_toArray, List.getElem_cons_zero, List.getElem_cons_succ, List.setIfInBounds_toArray, List.set_cons_zero, List.set_cons_succ]
                    refine wpAnyH_take (i := 3) (v := ?_) rfl (by kernel_rfl) (by kernel_rfl) (by kernel_rfl) (fun _ _ _ h => h) (Or.inl ⟨by rfl, ?_⟩) (by assumption) ?_
                    rotate_left
                    · intro w hSw
                      go_simp
                      try with_reducible rfl
                    simp only [Act.put, List.getElem_toArray, List.getElem_cons_zero, List.getElem_cons_succ, List.setIfInBounds_toArray, List.set_cons_zero, List.set_cons_succ]
                    refine wpAnyH_take (i := 4) (v := ?_) rfl (by kernel_rfl) (by kernel_rfl) (by kernel_rfl) (fun _ _ _ h => h) (Or.inl ⟨by rfl, ?_⟩) (by assumption) ?_
                    rotate_left
                    · intro w hSw
                      go_simp
                      try with_reducible rfl
                    simp only [Act.put, List.getElem_toArray, List.getElem_cons_zero, List.getElem_cons_succ, List.setIfInBounds_toArray, List.set_cons_zero, List.set_cons_succ]
                    refine wpAnyH_take (i := 5) (v := ?_) rfl (by kernel_rfl) (by kernel_rfl) (by kernel_rfl) (fun _ _ _ h => h) (Or.inl ⟨by rfl, ?_⟩) (by assumption) ?_
                    rotate_left
                    · intro w hSw
                      go_simp
                      try with_reducible rfl
                    simp only [Act.put, List.getElem_toArray, List.getElem_cons_zero, List.getElem_cons_succ, List.setIfInBounds_toArray, List.set_cons_zero, List.set_cons_succ]
                    refine wpAnyH_take (i := 6) (v := ?_) rfl (by kernel_rfl) (by kernel_rfl) (by kernel_rfl) (fun _ _ _ h => h) (Or.inl ⟨by rfl, ?_⟩) (by assumption) ?_
                    rotate_left
                    · intro w hSw
                      go_simp
                      try with_reducible rfl
                    simp only [Act.put, List.getElem_toArray, List.getElem_cons_zero, List.getElem_cons_succ, List.setIfInBounds_toArray, List.set_cons_zero, List.set_cons_succ]
                    refine wpAnyH_take (i := 8) (v := ?_) rfl (by kernel_rfl) (by kernel_rfl) (by kernel_rfl) (fun _ _ _ h => h) (Or.inl ⟨by rfl, ?_⟩) (by assumption) ?_
                    rotate_left
                    · intro w hSw
                      go_simp
                      try with_reducible rfl
                    simp only [Act.put, List.getElem_toArray, List.getElem_cons_zero, List.getElem_cons_succ, List.setIfInBounds_toArray, List.set_cons_zero, List.set_cons_succ]
                    refine wpAnyH_take (i := 9) (v := ?_) rfl (by kernel_rfl) (by kernel_rfl) (by kernel_rfl) (fun _ _ _ h => h) (Or.inl ⟨by rfl, ?_⟩) (by assumption) ?_
                    rotate_left
                    · intro w hSw
                      go_simp
                      try with_reducible rfl
                    simp only [Act.put, List.getElem_toArray, List.getElem_cons_zero, List.getElem_cons_succ, List.setIfInBounds_toArray, List.set_cons_zero, List.set_cons_succ]
                    refine wpAnyH_take (i := 10) (v := ?_) rfl (by kernel_rfl) (by kernel_rfl) (by kernel_rfl) (fun _ _ _ h => h) (Or.inl ⟨by rfl, ?_⟩) (by assumption) ?_
                    rotate_left
                    · intro w hSw
                      go_simp
                      try with_reducible rfl
                    simp only [Act.put, List.getElem_toArray, List.getElem_cons_zero, List.getElem_cons_succ, List.setIfInBounds_toArray, List.set_cons_zero, List.set_cons_succ]
                    refine wpAnyH_ready (rs := [7, 11]) (by kernel_rfl) (by simp) ?_
                    refine AllReadyH.cons rfl (fun K hK => ?_) (AllReadyH.cons rfl (fun K hK => ?_) AllReadyH.nil)
                    · go_simp
                      refine hK.out _ _ trivial (fun hHeld => ?_)
                      clear hK K
                      refine wpAnyH_ready (rs := [11]) (by kernel_rfl) (by simp) ?_
                      refine AllReadyH.cons rfl (fun K hK => ?_) AllReadyH.nil
                      go_simp
                      refine hK.out _ _ trivial (fun hHeld => ?_)
                      clear hK K
                      refine wpAnyH_take (i := 12) (v := ?_) rfl (by kernel_rfl) (by kernel_rfl) (by kernel_rfl) (fun _ _ _ h => h) (Or.inl ⟨by rfl, ?_⟩) (by assumption) ?_
                      rotate_left
                      · intro w hSw
                        go_simp
                        try with_reducible rfl
                      simp only [Act.put, List.getElem_toArray, List.getElem_cons_zero, List.getElem_cons_succ, List.setIfInBounds_toArray, List.set_cons_zero, List.set_cons_succ]
                      refine wpAnyH_ready (rs := [13]) (by kernel_rfl) (by simp) ?_
                      refine AllReadyH.cons rfl (fun K hK => ?_) AllReadyH.nil
                      go_simp
                      refine hK.out _ _ trivial (fun hHeld => ?_)
                      clear hK K c0 d0 z0 hX1
                      refine wpAnyH_take (i := 14) (v := ?_) rfl (by kernel_rfl) (by kernel_rfl) (by kernel_rfl) (fun _ _ _ h => h) (Or.inl ⟨by rfl, ?_⟩) (by assumption) ?_
                      rotate_left
                      · intro w hSw
                        go_simp
                        try with_reducible rfl
                      simp only [Act.put, List.getElem_toArray, List.getElem_cons_zero, List.getElem_cons_succ, List.setIfInBounds_toArray, List.set_cons_zero, List.set_cons_succ]
                      refine wpAnyH_ready (rs := [15]) (by kernel_rfl) (by simp) ?_
                      refine AllReadyH.cons rfl (fun K hK => ?_) AllReadyH.nil
                      go_simp
                      refine hK.out _ _ trivial (fun hHeld => ?_)
                      clear hK K e0 y0
                      refine wpAnyH_done (by kernel_rfl) ?_ _
                      go_wp2
                      go_roundw
                      case rel => exact ⟨q + 1, by go_num, QL.out, _, SW.out, AW.out⟩
                      case measure => simp [intOf]; have := QL.out; omega
                    · go_simp
                      refine hK.out _ _ trivial (fun hHeld => ?_)
                      clear hK K
                      refine wpAnyH_ready (rs := [7]) (by kernel_rfl) (by simp) ?_
                      refine AllReadyH.cons rfl (fun K hK => ?_) AllReadyH.nil
                      go_simp
                      refine hK.out _ _ trivial (fun hHeld => ?_)
                      clear hK K
                      refine wpAnyH_take (i := 12) (v := ?_) rfl (by kernel_rfl) (by kernel_rfl) (by kernel_rfl) (fun _ _ _ h => h) (Or.inl ⟨by rfl, ?_⟩) (by assumption) ?_
                      rotate_left
                      · intro w hSw
                        go_simp
                        try with_reducible rfl
                      simp only [Act.put, List.getElem_toArray, List.getElem_cons_zero, List.getElem_cons_succ, List.setIfInBounds_toArray, List.set_cons_zero, List.set_cons_succ]
                      refine wpAnyH_ready (rs := [13]) (by kernel_rfl) (by simp) ?_
                      refine AllReadyH.cons rfl (fun K hK => ?_) AllReadyH.nil
                      go_simp
                      refine hK.out _ _ trivial (fun hHeld => ?_)
                      clear hK K c0 d0 z0 hX1
                      refine wpAnyH_take (i := 14) (v := ?_) rfl (by kernel_rfl) (by kernel_rfl) (by kernel_rfl) (fun _ _ _ h => h) (Or.inl ⟨by rfl, ?_⟩) (by assumption) ?_
                      rotate_left
                      · intro w hSw
                        go_simp
                        try with_reducible rfl
                      simp only [Act.put, List.getElem_toArray, List.getElem_cons_zero, List.getElem_cons_succ, List.setIfInBounds_toArray, List.set_cons_zero, List.set_cons_succ]
                      refine wpAnyH_ready (rs := [15]) (by kernel_rfl) (by simp) ?_
                      refine AllReadyH.cons rfl (fun K hK => ?_) AllReadyH.nil
                      go_simp
                      refine hK.out _ _ trivial (fun hHeld => ?_)
                      clear hK K e0 y0
                      refine wpAnyH_done (by kernel_rfl) ?_ _
                      go_wp2
                      go_roundw
                      case rel => exact ⟨q + 1, by go_num, QL.out, _, SW.out, AW.out⟩
                      case measure => simp [intOf]; have := QL.out; omega
              · clear hln hal hq
                go_wp2
                go_roundw
                case rel => exact ⟨q + 1, by go_num, QL.out, l, HS.out, AL.out⟩
                case measure => simp [intOf]; have := QL.out; omega
            · have G1 := aside (G0.out.on hln.below)
              have ON := aside (own_low hln.own G0.out.below.size)
              clear hln hal hq HS G0 HP
              go_wp2
              go_loopw [136] (fun i X => ∃ (q : Nat) (La : List En) (ca : Int) (Lb : List En) (cb : Int), i = .int .i64 (q : Int) ∧ q ≤ len ∧ TW w X sa ga ta sb gb tb La ca Lb cb ∧ X.ownsRow w.heap.size 3 1 (.slice aL len cL) len (numCells l) ∧ Took (fun x => ∃ p, p < q ∧ x = T p) La ca ∧ Took (fun x => ∃ p, p < q ∧ x = T (nthN l p)) Lb cb) (fun i _ => len - (intOf i).toNat)
              case atStart => exact ⟨0, [], 0, [], 0, rfl, Nat.zero_le _, G1.out, ON.out, Took.nil.of (fun x => by simp), Took.nil.of (fun x => by simp)⟩
              case round =>
                obtain ⟨q, La, ca, Lb, cb, rfl, hq, htw, hon, hta, htb⟩ := hrel
                clear G1 ON hlt
                by_cases hlt : (q : Int) < (len : Int)
                · rcases HE.out.2.2 with h0 | ⟨b, off, rfl, hb, hc⟩
                  · omega
                  · have HC := aside hc
                    obtain ⟨c0, c1, c2, c3, c4⟩ := (hc q (by omega)).1
                    replace c0 := cell_in c0 htw.below
                    replace c1 := cell_in c1 htw.below
                    replace c2 := cell_in c2 htw.below
                    replace c3 := cell_in c3 htw.below
                    replace c4 := cell_in c4 htw.below
                    have QL := aside (show q + 1 ≤ len from by omega)
                    have hq0 : (0 : Int) ≤ (q : Int) := by omega
                    have hqw : IntKind.i64.wrap ((q : Int) + 1) = (q : Int) + 1 := by rw [IntKind.wrap_i64]; omega
                    have PL := aside (AL.out.lt (i := q) (by omega))
                    have TA := aside (takeA (T q) htw hta)
                    have TB := aside (fun (W : World) (La : List En) (ca : Int) (h : TW w W sa ga ta sb gb tb La ca Lb cb) => takeB (T (nthN l q)) h htb)
                    have ON := aside hon
                    have HT := aside htw
                    have EA : Hid (∀ x, ((∃ p, p < q ∧ x = T p) ∨ x = T q) ↔ ∃ p, p < q + 1 ∧ x = T p) := fun x => pre_succ (f := T)
                    have EB : Hid (∀ x, ((∃ p, p < q ∧ x = T (nthN l p)) ∨ x = T (nthN l q)) ↔ ∃ p, p < q + 1 ∧ x = T (nthN l p)) := fun x => pre_succ (f := fun p => T (nthN l p))
                    generalize T q = x at c0 c1 c2 c3 c4 TA EA
                    clear hc hb htw hq hon hta htb
                    go_wp2_with fail
                    clear c0 c1 c2 c3 c4
                    refine TA.out.mono ?_
                    rintro e w4 ⟨bA, gA, La', ca', rfl, ht1, k1, tk1⟩
                    have on1 := HT.out.ownA k1 ON.out (by decide) (by decide) (by decide)
                    obtain ⟨c0, c1, c2, c3, c4⟩ := (HC.out (nthN l q) PL.out).1
                    replace c0 := cell_in c0 ht1.below
                    replace c1 := cell_in c1 ht1.below
                    replace c2 := cell_in c2 ht1.below
                    replace c3 := cell_in c3 ht1.below
                    replace c4 := cell_in c4 ht1.below
                    have hp0 : (0 : Int) ≤ (nthN l q : Int) := by omega
                    have hpl : (nthN l q : Int) < (len : Int) := by have := PL.out; omega
                    rcases HF.out with ⟨-, h0, -⟩ | ⟨g, rfl, hgb⟩
                    · omega
                    have d0 := num_at on1 (i := q) (by have := AL.out.1; omega)
                    have H1 := aside ht1
                    have O1 := aside on1
                    have K1 := aside tk1
                    generalize T (nthN l q) = y at *
                    generalize nthN l q = z at *
                    clear ht1 on1 tk1 k1 TA HT ON hgb HF
                    go_wp2_with fail
                    clear c0 c1 c2 c3 c4 d0 hp0 hpl
                    refine (TB.out _ _ _ H1.out).mono ?_
                    rintro e w5 ⟨bB, gB, Lb', cb', rfl, ht1, k1, tk1⟩
                    have H2 := aside ht1
                    have O2 := aside (H1.out.ownB k1 O1.out (by decide) (by decide) (by decide))
                    have K2 := aside tk1
                    clear ht1 k1 tk1 TB H1 O1
                    by_cases hg1 : gA = 80
                    · go_wp2
                      go_ret
                      exact ⟨rfl, H2.out.below⟩
                    have hb1 : (gA == 80) = false := by simpa using hg1
                    by_cases hg2 : gB = 80
                    · go_wp2
                      go_ret
                      exact ⟨rfl, H2.out.below⟩
                    have hb2 : (gB == 80) = false := by simpa using hg2
                    have R1 := aside ((K1.out hg1).of EA.out)
                    have R2 := aside ((K2.out hg2).of EB.out)
                    clear K1 K2 EA EB
                    go_wp2
                    go_roundw
                    case rel => exact ⟨q + 1, _, _, _, _, by go_num, QL.out, H2.out, O2.out, R1.out, R2.out⟩
                    case measure => simp [intOf]; have := QL.out; omega
                · obtain rfl : len = q := by omega
                  have TKA := aside hta
                  have TKB := aside (show Took (fun x => ∃ p, p < len ∧ x = T p) Lb cb from htb.of (fun x => ⟨fun ⟨p, h1, h2⟩ => ⟨nthN l p, AL.out.lt h1, h2⟩, fun ⟨p, h1, h2⟩ => by obtain ⟨p', h3, h4⟩ := AL.out.hit h1; exact ⟨p', h3, by rw [h4]; exact h2⟩⟩))
                  have SM := aside (TKA.out.same TKB.out (by rintro x y ⟨p, h1, rfl⟩ ⟨p', h2, rfl⟩; exact NA.out p p' h1 h2))
                  have G1 := aside htw
                  clear htw hon hta htb hq hlt TKB AL NA HF
                  go_wp2
                  go_loopw [169] (fun i X => ∃ q : Nat, i = .int .i64 (q : Int) ∧ q ≤ len ∧ TW w X sa ga ta sb gb tb La ca Lb cb) (fun i _ => len - (intOf i).toNat)
                  case atStart => exact ⟨0, rfl, Nat.zero_le _, G1.out⟩
                  case round =>
                    obtain ⟨q, rfl, hq, htw⟩ := hrel
                    clear G1
                    by_cases hlt : (q : Int) < (len : Int)
                    · rcases HE.out.2.2 with h0 | ⟨b, off, rfl, hb, hc⟩
                      · omega
                      · obtain ⟨c0, c1, c2, c3, c4⟩ := (hc q (by omega)).1
                        replace c0 := cell_in c0 htw.below
                        replace c1 := cell_in c1 htw.below
                        replace c2 := cell_in c2 htw.below
                        replace c3 := cell_in c3 htw.below
                        replace c4 := cell_in c4 htw.below
                        have QL := aside (show q + 1 ≤ len from by omega)
                        have hq0 : (0 : Int) ≤ (q : Int) := by omega
                        have hqw : IntKind.i64.wrap ((q : Int) + 1) = (q : Int) + 1 := by rw [IntKind.wrap_i64]; omega
                        have TC := aside (fun (W : World) (h : TW w W sa ga ta sb gb tb La ca Lb cb) => takeC (T q) h TKA.out ⟨q, by omega, rfl⟩)
                        generalize T q = x at c0 c1 c2 c3 c4 TC
                        have G2 := aside (htw.on (bnew wr (.cells #[.string x.k, .int .i64 x.c, .int .i64 x.n, .string x.v, .bool x.d] 39)))
                        have x1 := heap_alloc_new wr (.cells #[.string x.k, .int .i64 x.c, .int .i64 x.n, .string x.v, .bool x.d] 39)
                        obtain ⟨x0, x1, x2, x3, x4⟩ := quint x1
                        clear hc hb htw hq
                        go_wp2_with fail
                        clear c0 c1 c2 c3 c4 x0 x1 x2 x3 x4
                        refine (TC.out _ G2.out).mono ?_
                        rintro e w4 ⟨gA, rfl, ht1⟩
                        have H1 := aside ht1
                        clear ht1 G2 TC
                        go_wp2
                        go_roundw
                        case rel => exact ⟨q + 1, by go_num, QL.out, H1.out⟩
                        case measure => simp [intOf]; have := QL.out; omega
                    · obtain ⟨e1, e2⟩ := SM.out
                      subst e1 e2
                      have hll := TKA.out.len
                      have G1 := aside htw
                      clear htw hq SM TKA HE
                      have CHA := aside (held_any G1.out.a (by omega))
                      go_wp2_with fail
                      refine CHA.out.mono ?_
                      rintro e w4 ⟨vA, rfl, own1, b1⟩
                      have G2 := aside (G1.out.on b1)
                      obtain ⟨aA, cA, rfl, hcA1, hcA2, hfA⟩ := own_slc own1
                      have OA := aside own1
                      have FA := aside hfA
                      have hcA3 : (La.length : Int) ≤ (cA : Int) := by omega
                      have CHB := aside (held_any G2.out.b (by omega))
                      clear own1 b1 hfA hcA1 hcA2 CHA G1
                      go_wp2_with fail
                      refine CHB.out.mono ?_
                      rintro e w5 ⟨vB, rfl, own1, b1⟩
                      have G3 := aside (G2.out.on b1)
                      have OA3 := aside (own_on OA.out b1)
                      obtain ⟨aB, cB, rfl, hcB1, hcB2, hfB⟩ := own_slc own1
                      have OB3 := aside own1
                      have FB := aside hfB
                      clear own1 b1 hfB hcB1 hcB2 CHB G2 OA
                      have hX := fold_num hll
                      have FDA := aside (fun (W : World) (h : TW w W sa ga ta sb gb tb La ca La ca) => foldA h hll)
                      have FDB := aside (fun (W : World) (h : TW w W sa ga ta sb gb tb La ca La ca) => foldB h hll)
                      rw [hX] at FDA FDB
                      generalize foldV ⟨#[]⟩ ⟨#[]⟩ true La = X at *
                      clear hX
                      go_wp2_with fail
                      refine (whole_any _).mono ?_
                      rintro e w6 ⟨rfl, b1⟩
                      have G4 := aside (G3.out.on b1)
                      have OA4 := aside (own_on OA3.out b1)
                      have OB4 := aside (own_on OB3.out b1)
                      clear b1 G3 OA3 OB3
                      go_wp2_with fail
                      refine (FDA.out _ G4.out).mono ?_
                      rintro e w7 ⟨rfl, ht1, k1⟩
                      have OA5 := aside (own_on (G4.out.ownA k1 OA4.out (by decide) (by decide) (by decide)) (bnew w7 (.cells #[.int .i64 (La.length : Int), .int .u64 X.a, .int .u64 X.b] 64)))
                      have OB5 := aside (own_on (G4.out.ownA k1 OB4.out (by decide) (by decide) (by decide)) (bnew w7 (.cells #[.int .i64 (La.length : Int), .int .u64 X.a, .int .u64 X.b] 64)))
                      have G5 := aside (ht1.on (bnew w7 (.cells #[.int .i64 (La.length : Int), .int .u64 X.a, .int .u64 X.b] 64)))
                      have T5 := aside (heap_alloc_new w7 (.cells #[.int .i64 (La.length : Int), .int .u64 X.a, .int .u64 X.b] 64))
                      clear ht1 k1 G4 OA4 OB4 FDA
                      go_wp2_with fail
                      generalize w7.alloc (.cells #[.int .i64 (La.length : Int), .int .u64 X.a, .int .u64 X.b] 64) = V5 at *
                      generalize w7.heap.size = i5 at *
                      refine (whole_any _).mono ?_
                      rintro e w8 ⟨rfl, b1⟩
                      have G6 := aside (G5.out.on b1)
                      have OA6 := aside (own_on OA5.out b1)
                      have OB6 := aside (own_on OB5.out b1)
                      have T6 := aside (blk_on T5.out b1)
                      clear b1 G5 OA5 OB5 T5
                      go_wp2_with fail
                      refine (FDB.out _ G6.out).mono ?_
                      rintro e w9 ⟨rfl, ht1, k1⟩
                      have OA7 := aside (own_on (G6.out.ownB k1 OA6.out (by decide) (by decide) (by decide)) (bnew w9 (.cells #[.int .i64 (La.length : Int), .int .u64 X.a, .int .u64 X.b] 64)))
                      have OB7 := aside (own_on (G6.out.ownB k1 OB6.out (by decide) (by decide) (by decide)) (bnew w9 (.cells #[.int .i64 (La.length : Int), .int .u64 X.a, .int .u64 X.b] 64)))
                      have T7 := aside (blk_on (G6.out.boxB k1 T6.out (by decide) (by decide) (by decide)) (bnew w9 (.cells #[.int .i64 (La.length : Int), .int .u64 X.a, .int .u64 X.b] 64)))
                      have U7 := aside (heap_alloc_new w9 (.cells #[.int .i64 (La.length : Int), .int .u64 X.a, .int .u64 X.b] 64))
                      have G7 := aside (ht1.on (bnew w9 (.cells #[.int .i64 (La.length : Int), .int .u64 X.a, .int .u64 X.b] 64)))
                      clear ht1 k1 G6 OA6 OB6 FDB T6
                      obtain ⟨s0, s1, s2, -⟩ := tri T7.out
                      obtain ⟨r0, r1, r2, -⟩ := tri U7.out
                      have hts := tal_ne_same
                      have CCA := aside (qclock G7.out.a)
                      have CCB := aside (qclock G7.out.b)
                      go_wp2_with fail
                      refine CCA.out.mono ?_
                      rintro e w10 ⟨rfl, rfl⟩
                      go_wp2_with fail
                      refine CCB.out.mono ?_
                      rintro e w11 ⟨rfl, rfl⟩
                      clear s0 s1 s2 r0 r1 r2 T7 U7 hts CCA CCB
                      generalize w9.alloc (.cells #[.int .i64 (La.length : Int), .int .u64 X.a, .int .u64 X.b] 64) = Y at *
                      go_wp2
                      have B7 := aside G7.out.below
                      clear G7
                      generalize hnn : La.length = n at *
                      have HN := aside hnn
                      clear hnn
                      go_loopw [237] (fun i X => ∃ q : Nat, i = .int .i64 (q : Int) ∧ q ≤ n ∧ Below Y.heap.size Y X) (fun i _ => n - (intOf i).toNat)
                      case atStart => exact ⟨0, rfl, Nat.zero_le _, Below.refl _ _⟩
                      case round =>
                        obtain ⟨q, rfl, hq, hbl⟩ := hrel
                        by_cases hlt : (q : Int) < (n : Int)
                        · rcases FA.out with ⟨-, h0, -⟩ | ⟨g, rfl, hgb⟩
                          · omega
                          rcases FB.out with ⟨-, h0, -⟩ | ⟨g2, rfl, hgb2⟩
                          · omega
                          have QL := aside (show q + 1 ≤ n from by omega)
                          have hq0 : (0 : Int) ≤ (q : Int) := by omega
                          have hqw : IntKind.i64.wrap ((q : Int) + 1) = (q : Int) + 1 := by rw [IntKind.wrap_i64]; omega
                          have S9 := aside (ten (own_on OA7.out hbl).drew (own_on OB7.out hbl).drew (i := q) (by have := HN.out; omega))
                          generalize nthE La q = x at *
                          have hsm : ∀ w, (binOp .neq 39 (.agg #[.string x.k, .int .i64 x.c, .int .i64 x.n, .string x.v, .bool x.d]) (.agg #[.string x.k, .int .i64 x.c, .int .i64 x.n, .string x.v, .bool x.d])).run Tryd.prog w = .ok (.bool false) w := fun w => by rw [ent_ne, enEqB_same]; rfl
                          have BW := aside hbl.drew
                          clear hgb hgb2 hq hbl FA FB
                          go_wp2_with fail
                          refine wp_region_held_drew (S := fun W => W.cell? ⟨g, q * 5, none⟩ = some (.string x.k) ∧ W.cell? ⟨g, q * 5 + 1, none⟩ = some (.int .i64 x.c) ∧ W.cell? ⟨g, q * 5 + 2, none⟩ = some (.int .i64 x.n) ∧ W.cell? ⟨g, q * 5 + 3, none⟩ = some (.string x.v) ∧ W.cell? ⟨g, q * 5 + 4, none⟩ = some (.bool x.d) ∧ W.cell? ⟨g2, q * 5, none⟩ = some (.string x.k) ∧ W.cell? ⟨g2, q * 5 + 1, none⟩ = some (.int .i64 x.c) ∧ W.cell? ⟨g2, q * 5 + 2, none⟩ = some (.int .i64 x.n) ∧ W.cell? ⟨g2, q * 5 + 3, none⟩ = some (.string x.v) ∧ W.cell? ⟨g2, q * 5 + 4, none⟩ = some (.bool x.d)) (by kernel_rfl) S9.out (fun hHeld => ?_)
                          refine wpAnyH_take (i := 0) (v := ?_) rfl (by kernel_rfl) (by kernel_rfl) (by kernel_rfl) (fun _ _ _ h => h) (Or.inl ⟨by rfl, ?_⟩) (by assumption) ?_
                          rotate_left
                          · intro w hSw
                            go_simp
                            try with_reducible rfl
                          simp only [Act.put, List.getElem_toArray, List.getElem_cons_zero, List.setIfInBounds_toArray, List.set_cons_zero, List.set_cons_succ]
                          refine wpAnyH_take (i := 1) (v := ?_) rfl (by kernel_rfl) (by kernel_rfl) (by kernel_rfl) (fun _ _ _ h => h) (Or.inl ⟨by rfl, ?_⟩) (by assumption) ?_
                          rotate_left
                          · intro w hSw
                            go_simp
                            try with_reducible rfl
                          simp only [Act.put, List.getElem_toArray, List.getElem_cons_zero, List.getElem_cons_succ, List.setIfInBounds_toArray, List.set_cons_zero, List.set_cons_succ]
                          refine wpAnyH_take (i := 2) (v := ?_) rfl (by kernel_rfl) (by kernel_rfl) (by kernel_rfl) (fun _ _ _ h => h) (Or.inl ⟨by rfl, ?_⟩) (by assumption) ?_
                          rotate_left
                          · intro w hSw
                            go_simp
                            try with_reducible rfl
                          simp only [Act.put, List.getElem_toArray, List.getElem_cons_zero, List.getElem_cons_succ, List.setIfInBounds_toArray, List.set_cons_zero, List.set_cons_succ]
                          refine wpAnyH_take (i := 3) (v := ?_) rfl (by kernel_rfl) (by kernel_rfl) (by kernel_rfl) (fun _ _ _ h => h) (Or.inl ⟨by rfl, ?_⟩) (by assumption) ?_
                          rotate_left
                          · intro w hSw
                            go_simp
                            try with_reducible rfl
                          simp only [Act.put, List.getElem_toArray, List.getElem_cons_zero, List.getElem_cons_succ, List.setIfInBounds_toArray, List.set_cons_zero, List.set_cons_succ]
                          refine wpAnyH_take (i := 4) (v := ?_) rfl (by kernel_rfl) (by kernel_rfl) (by kernel_rfl) (fun _ _ _ h => h) (Or.inl ⟨by rfl, ?_⟩) (by assumption) ?_
                          rotate_left
                          · intro w hSw
                            go_simp
                            try with_reducible rfl
                          simp only [Act.put, List.getElem_toArray, List.getElem_cons_zero, List.getElem_cons_succ, List.setIfInBounds_toArray, List.set_cons_zero, List.set_cons_succ]
                          refine wpAnyH_take (i := 5) (v := ?_) rfl (by kernel_rfl) (by kernel_rfl) (by kernel_rfl) (fun _ _ _ h => h) (Or.inl ⟨by rfl, ?_⟩) (by assumption) ?_
                          rotate_left
                          · intro w hSw
                            go_simp
                            try with_reducible rfl
                          simp only [Act.put, List.getElem_toArray, List.getElem_cons_zero, List.getElem_cons_succ, List.setIfInBounds_toArray, List.set_cons_zero, List.set_cons_succ]
                          refine wpAnyH_take (i := 6) (v := ?_) rfl (by kernel_rfl) (by kernel_rfl) (by kernel_rfl) (fun _ _ _ h => h) (Or.inl ⟨by rfl, ?_⟩) (by assumption) ?_
                          rotate_left
                          · intro w hSw
                            go_simp
                            try with_reducible rfl
                          simp only [Act.put, List.getElem_toArray, List.getElem_cons_zero, List.getElem_cons_succ, List.setIfInBounds_toArray, List.set_cons_zero, List.set_cons_succ]
                          refine wpAnyH_take (i := 7) (v := ?_) rfl (by kernel_rfl) (by kernel_rfl) (by kernel_rfl) (fun _ _ _ h => h) (Or.inl ⟨by rfl, ?_⟩) (by assumption) ?_
                          rotate_left
                          · intro w hSw
                            go_simp
                            try with_reducible rfl
                          simp only [Act.put, List.getElem_toArray, List.getElem_cons_zero, List.getElem_cons_succ, List.setIfInBounds_toArray, List.set_cons_zero, List.set_cons_succ]
                          refine wpAnyH_take (i := 8) (v := ?_) rfl (by kernel_rfl) (by kernel_rfl) (by kernel_rfl) (fun _ _ _ h => h) (Or.inl ⟨by rfl, ?_⟩) (by assumption) ?_
                          rotate_left
                          · intro w hSw
                            go_simp
                            try with_reducible rfl
                          simp only [Act.put, List.getElem_toArray, List.getElem_cons_zero, List.getElem_cons_succ, List.setIfInBounds_toArray, List.set_cons_zero, List.set_cons_succ]
                          refine wpAnyH_done (by kernel_rfl) ?_ _
                          clear hHeld
                          go_wp2
                          go_roundw
                          case rel => exact ⟨q + 1, by go_num, QL.out, BW.out⟩
                          case measure => simp [intOf]; have := QL.out; omega
                        · have BW := aside (bthen B7.out hbl)
                          clear hbl hq
                          go_wp2
                          go_ret
                          exact ⟨rfl, BW.out⟩

end Go.Proofs.YtlgcdcjhflihiaaDoor
namespace Go.Proofs.YtlgcdcjhflihiaaDoor.storeTurned
open Go.ChangeShapes Go.WideShapes Go.ChangeAt Go.RowKit
open Go.ChangeMaps (open_string shut_string)
set_option linter.unusedVariables false

/-- What the row's list gives. -/
theorem env_of {W : World} (h : laidMetH Tryd.prog Rows.storeTurnedRow.laid W) : Lanes W := by
  rw [MakeChecks.laidMetH_plain _ _ _ (by kernel_rfl)] at h
  exact lanes_of h

set_option maxRecDepth 100000 in
theorem lifted (os : Os) (started : os.Started) (H : Type) (enc : TypeId × Value → H) :
    ReturnsInHanded {} Tryd.checked os 6 .any (fun w args => (Rows.storeTurnedSpec.pre enc Tryd.prog Tryd.f6 Rows.storeTurnedRow.domain false w args ∧ laidMetH Tryd.prog Rows.storeTurnedRow.laid w) ∧ sizedMet enc Tryd.prog Tryd.f6 (OpenSpec.ofChange Rows.storeTurnedSpec) false w args)
      (Rows.storeTurnedSpec.post enc Tryd.prog Tryd.f6 false true false false) := by
  refine returnsInHanded_of_calls own started (by kernel_rfl)
    (ChangeSpec.witness_shaped (enc := enc) (C := Tryd.checked) (os := os) (X := fun w _ => laidMetH Tryd.prog Rows.storeTurnedRow.laid w) false (World.laidAll Tryd.prog os Rows.storeTurnedRow.laid) #[.slice none 0 0, .slice none 0 0] 8 (World.laidAll_os _ _ _)
      (World.shaped_of_ZipB (by kernel_rfl) (by kernel_rfl)) (by kernel_rfl) (by kernel_rfl) (by kernel_rfl)
      (by rw [MakeChecks.laidMetH_plain _ _ _ (by kernel_rfl)]; exact laidMet_laidAll _ (by kernel_rfl) (by kernel_rfl))) ?_
  intro w tape i _ hsh _ hok hpre hholds
  obtain ⟨_, _, _, fn', hfn', _, _, _, _, hval0⟩ := hok
  obtain rfl : fn' = Tryd.f6 := Option.some.inj (hfn'.symm.trans Tryd.func6)
  obtain ⟨⟨⟨ds, gs, before, hw, hc⟩, hL0⟩, hz⟩ := hpre
  have hsz : (DataW.weightsEach Tryd.prog (Tryd.f6.params.toList ++ Rows.storeTurnedSpec.plain.varTypes Tryd.prog) (ds ++ gs)).all (· ≤ reachBytes) = true := hz.weights hw
  have hW := DataW.Whole.of_heap (w' := w.forCall tape i) (by rfl) hw
  have hL : laidMetH Tryd.prog Rows.storeTurnedRow.laid (w.forCall tape i) := hL0.of_heap (by rfl)
  suffices hmain : Calls Tryd.prog 6 i.args (w.forCall tape i) fun e W' => ∃ v, e = .returned v ∧ Rows.storeTurnedSpec.post enc Tryd.prog Tryd.f6 false true false false (w.forCall tape i) i.args v W' from
    hmain.mono fun e W' ⟨v, he, hp⟩ => by subst he; exact ChangeSpec.post_blind hp
  generalize w.forCall tape i = W at *
  generalize i.args = args at *
  generalize w.heap.size = base at *
  have hval : ∀ (j : Nat) t v, Tryd.f6.params[j]? = some t → args[j]? = some v → Value.okWide Tryd.prog W .any base t v := hval0
  have hW' := hW
  obtain ⟨p, q, hA0, hV, rfl, hfz, hnd⟩ := hW
  have hA : DataW.TrodAll enc Tryd.prog W 0 (fun _ => true) true Tryd.f6.params.toList args.toList ds p := hA0
  rw [Tryd.params6] at hA hval hsz
  obtain ⟨v0, vs0, d0, ds0, p0, q0, hargs0, rfl, rfl, h0, r0⟩ := trodAll_cons hA
  obtain ⟨v1, vs1, d1, ds1, p1, q1, hargs1, rfl, rfl, h1, r1⟩ := trodAll_cons r0
  obtain ⟨rfl, rfl, rfl⟩ := trodAll_nil r1
  subst hargs1
  obtain rfl : args = #[v0, v1] := by cases args; simp_all
  obtain ⟨rfl, rfl⟩ := trodVars_none hV
  obtain ⟨a0, len0, cap0, rfl⟩ := okWide_slice Tryd.underlying31 (hval 0 31 v0 rfl rfl)
  have k0 := h0
  have lt0 : ∀ x ∈ p0, x.block < W.heap.size := by obtain ⟨m, hm⟩ := k0; exact DataW.trod_lt m _ _ _ hm
  have wz0 : ∀ n ∈ d0.weights Tryd.prog 31, n ≤ reachBytes := fun n hn => by
    have := List.all_eq_true.1 hsz n (DataW.weights_mem_each (j := 0) (t := 31) rfl rfl n hn)
    simpa using this
  obtain ⟨T0, g0, fm0, z0⟩ : ∃ T, EntsIn W a0 len0 cap0 T ∧ ((a0 = none ∧ len0 = 0 ∧ cap0 = 0) ∨ ∃ y, a0 = some y) ∧ len0 * 56 ≤ 140737488351232 := by
    obtain ⟨fuel, hf⟩ := h0
    exact ents_open (enc := enc) (d := d0) (ps := p0) (fuel := fuel) (by simpa [Value.cells] using hf) wz0
  obtain ⟨a1, len1, cap1, rfl⟩ := okWide_slice Tryd.underlying59 (hval 1 59 v1 rfl rfl)
  have k1 := h1
  have lt1 : ∀ x ∈ p1, x.block < W.heap.size := by obtain ⟨m, hm⟩ := k1; exact DataW.trod_lt m _ _ _ hm
  obtain ⟨T1, g1⟩ : ∃ T, IntsIn W a1 len1 cap1 T := by
    obtain ⟨fuel, hf⟩ := h1
    exact ints_open (enc := enc) (d := d1) (ps := p1) (fuel := fuel) (by simpa [Value.cells] using hf)
  clear hA0 hval0
  refine (lstturned_walk a0 len0 cap0 T0 a1 len1 cap1 T1 W (env_of hL) g0 z0 g1).mono fun e W' ⟨he, bel⟩ => ?_
  subst he
  exact ⟨_, rfl, _, _, _, [], _, [], hW', trodAll_mk1 (shut_bool Tryd.underlying4 _), (trodAll_cons_mk (Below.trod laidOut (by kernel_rfl) (of_decide_eq_true (by kernel_rfl)) k0 bel lt0) (trodAll_cons_mk (Below.trod laidOut (by kernel_rfl) (of_decide_eq_true (by kernel_rfl)) k1 bel lt1) trodAll_mk0)), rfl, bel.frame _, fun h => by cases h⟩

theorem said : Rows.StoreTurnedSaid :=
  OpenClaim.holds_of_wide 6 Tryd.f6 rfl rfl rfl rfl rfl rfl rfl ⟨rfl, rfl, rfl, rfl, rfl⟩ rfl rfl rfl rfl rfl (by kernel_rfl) Tryd.func6 (by kernel_rfl)
    (of_decide_eq_true (by kernel_rfl)) (by unfold Func.isWrapper; first | (rw [if_pos (by decide +kernel)]; kernel_rfl) | (rw [if_neg (by decide +kernel)]; exact ⟨rfl, rfl⟩))
    (fun os started H enc _ => lifted os started H enc)

theorem card : Rows.StoreTurnedCardSaid :=
  Claim7.holds_tied_plain_at .later [] _ _ _ _ said (fun _ h => by cases h) (by kernel_rfl) (fun _ h => by cases h) storeTurned_row_tie rfl ⟨rfl, rfl⟩ (by kernel_rfl) rfl
    (fun f fn hf hfn => by
      obtain rfl : f = 6 := Option.some.inj ((show Tryd.prog.funcNamed "tideline/tidelinelaw08.StoreTurned" = some 6 by kernel_rfl).symm.trans hf) |>.symm
      obtain rfl : fn = Tryd.f6 := (Option.some.inj (Tryd.func6.symm.trans hfn)).symm
      refine ⟨by kernel_rfl, fun j t ht => ?_⟩
      rw [Tryd.params6] at ht
      have hm : t ∈ [31, 59] := by simpa using Array.mem_of_getElem? ht
      have hall : ([31, 59].all fun u => !Tryd.prog.wantsStandIn u) = true := by kernel_rfl
      exact (show Tryd.prog.wantsStandIn t = false by simpa using List.all_eq_true.1 hall t hm)) (by kernel_rfl)

end Go.Proofs.YtlgcdcjhflihiaaDoor.storeTurned
namespace Go.Proofs.YtlgcdcjhflihiaaDoor
theorem storeTurned_holds : Rows.StoreTurnedCardSaid := storeTurned.card
end Go.Proofs.YtlgcdcjhflihiaaDoor

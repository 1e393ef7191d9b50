/-
  The law MergeSteps, walked.
-/
import Derived.Test.YtgailbfoicoaiaaMgStp
import Derived.Test.YtgailbfoicoaiaaMgOpenI
namespace Go.Proofs.Ytgailbfoicoaiaa
open Go.RowKit
set_option linter.unusedVariables false

set_option maxHeartbeats 12800000 in
set_option maxRecDepth 100000 in
theorem lmsteps_walk (a : Option Addr) (la ca : Nat) (Ma : List En) (b : Option Addr) (lb cb : Nat) (Mb : List En) (p : Option Addr) (lp cp : Nat) (T : Nat → Int) (w : World) (ha : Lst w a la ca Ma) (hb : Lst w b lb cb Mb) (fa : (a = none ∧ la = 0 ∧ ca = 0) ∨ ∃ y, a = some y) (fb : (b = none ∧ lb = 0 ∧ cb = 0) ∨ ∃ y, b = some y) (hp : IntsIn w p lp cp T) :
    Calls Try.prog 3 #[.slice a la ca, .slice b lb cb, .slice p lp cp] w fun e w' => e = .returned (.bool true) ∧ Below w.heap.size w w' := by
  have BW := aside (Below.refl w.heap.size w)
  have La := aside ha
  have Lb := aside hb
  have LP := aside hp
  have FA := aside fa
  have FB := aside fb
  have CB := aside (beyond2 ha hb)
  clear ha hb hp fa fb
  go_enter Try.func3, Try.ntmps3
  go_wp2_with fail
  refine CB.out.mono ?_
  rintro e w1 ⟨q, rfl, hq, b1⟩
  replace BW := aside (bthen BW.out b1)
  replace La := aside (La.out.keep b1)
  replace Lb := aside (Lb.out.keep b1)
  replace LP := aside (LP.out.keep b1)
  have HQ := aside hq
  clear b1 hq CB
  cases q
  case true =>
    go_wp2
    go_ret
    exact ⟨rfl, BW.out⟩
  have HN := aside (HQ.out rfl)
  clear HQ
  by_cases hpx : (1048576 : Int) < (lp : Int)
  case pos =>
    go_wp2
    go_ret
    exact ⟨rfl, BW.out⟩
  go_wp2_with fail
  refine (cleanL_any La.out Lb.out (by have := HN.out; omega)).mono ?_
  rintro e V ⟨q, rfl, hq, b2⟩
  replace BW := aside (bthen BW.out b2)
  replace La := aside (La.out.keep b2)
  replace Lb := aside (Lb.out.keep b2)
  replace LP := aside (LP.out.keep b2)
  have HQ := aside hq
  clear b2 hq
  cases q
  case false =>
    go_wp2
    go_ret
    exact ⟨rfl, BW.out⟩
  have HK := aside (HQ.out rfl)
  have ma := aside HK.out.1
  have mb := aside HK.out.2.1
  have BE := aside (bnew V (.cells #[] 29))
  have OE := aside (own_emptyE V V.heap.size (Nat.le_refl _))
  have hla := La.out.len
  have hlb := Lb.out.len
  obtain ⟨m0, hm0⟩ : ∃ m, la + lb = m := ⟨_, rfl⟩
  have HM0 := aside hm0
  have HLL := aside (show Ma.length = la ∧ Mb.length = lb from ⟨hla, hlb⟩)
  clear HQ hla hlb hm0
  go_wp2_with (at_builtin; go_loud (refine wpList_plain rfl fun K hK => op_append_ents _ _ rfl V.heap.size 0 _ [] (by rfl) OE.out a la ca la Ma (by rfl) (La.out.keep BE.out) FA.out (by omega) (by have h1 := HN.out; have h2 := HLL.out; omega) (by simp) ?_); intro a3 c3 w3 own3 gr3; refine hK _ _ ?_; refine Hid.out ?_)
  refine aside ?_
  have B3 := aside (BE.out.grown gr3 (by simp) (fun k e => (OE.out.lt k e).1))
  have O3 := aside own3
  clear own3 gr3 OE BE
  go_wp2_with (at_builtin; go_loud (refine wpList_plain rfl fun K hK => op_append_ents _ _ rfl V.heap.size la _ _ (by rfl) O3.out b lb cb m0 Mb (by rfl) (Lb.out.keep B3.out) FB.out HM0.out (by have h1 := HN.out; have h2 := HLL.out; have h3 := HM0.out; omega) B3.out.size ?_); intro a4 c4 w4 own4 gr4; refine hK _ _ ?_; refine Hid.out ?_)
  refine aside ?_
  have B4 := aside (B3.out.grown gr4 B3.out.size (fun k e => (O3.out.lt k e).1))
  have O4 := aside (show w4.ownsRow V.heap.size 29 5 (.slice a4 m0 c4) m0 (entCells (Ma ++ Mb)) from own4)
  have OE := aside (own_emptyE w4 w4.heap.size (Nat.le_refl _))
  have I0 := aside (show StM V a4 m0 c4 (Ma ++ Mb) (some ⟨w4.heap.size, 0, none⟩) 0 0 [] (w4.alloc (.cells #[] 29)) from ⟨own_on O4.out (bnew _ _), ⟨w4.heap.size, OE.out, B4.out.size, fun j e => (O4.out.lt j e).2⟩, bthen B4.out (bnew _ _)⟩)
  clear own4 gr4 O3 B3 OE O4 B4
  obtain ⟨NN, hNN⟩ : ∃ N, Ma.length + Mb.length = N := ⟨_, rfl⟩
  have HNN := aside hNN
  clear hNN
  go_wp2
  go_loopw [7, 8, 9] (fun v u i9 wr => ∃ (i m : Nat) (ra : Option Addr) (rc : Nat) (R : List En) (da : Option Addr) (dn dc : Nat) (M : List En), v = .slice ra m rc ∧ u = .slice da dn dc ∧ i9 = .int .i64 (i : Int) ∧ Hid (StI Ma Mb i R M) ∧ Hid (StM V ra m rc R da dn dc M wr)) (fun _ _ i9 _ => NN - (intOf i9).toNat)
  case atStart => exact ⟨0, m0, a4, c4, Ma ++ Mb, _, 0, 0, [], rfl, rfl, rfl, StI.start Ma Mb, I0.out⟩
  case round =>
    obtain ⟨i, m, ra, rc, R, da, dn, dc, M, rfl, rfl, rfl, HI, HM⟩ := hrel
    clear I0 HM0
    have HLN := aside HM.out.len.1
    have hib : i ≤ 1073741824 := by have h1 := HI.out.cnt; have h2 := HN.out; omega
    by_cases hm : (0 : Int) < (m : Int)
    · obtain ⟨m1, hm1⟩ : ∃ m1, m = m1 + 1 := ⟨m - 1, by omega⟩
      have HM1 := aside hm1
      have hw1 : IntKind.i64.wrap ((m : Int) - 1) = (m1 : Int) := by
        have h1 := HI.out.cnt
        have h2 := HN.out
        have h3 := HLN.out
        simp only [IntKind.wrap_i64]; omega
      have hm10 : (0 : Int) ≤ (m1 : Int) := by omega
      have hm1m : (m1 : Int) < (m : Int) := by omega
      have hmb : (m : Int) ≤ 1073741824 := by have h1 := HI.out.cnt; have h2 := HN.out; have h3 := HLN.out; omega
      rcases (own_slice HM.out.rest) with ⟨_, _, e1, -, hcap, hf⟩
      injection e1 with e1 _ e3
      subst e1 e3
      rcases hf with ⟨_, h0, _⟩ | ⟨g, rfl, hg⟩
      · omega
      have hrc : (m1 : Int) ≤ (rc : Int) := by have := (row_max HM.out.rest).1; omega
      clear hcap hg
      by_cases hip : (i : Int) < (lp : Int)
      · have hi0 : (0 : Int) ≤ (i : Int) := by omega
        have hPP := LP.out.keep (HM.out.bel)
        rcases hPP.2.2 with h0 | ⟨pb, po, rfl, -, hpc⟩
        · omega
        have hpi := hpc i (by omega)
        obtain ⟨z, hz⟩ : ∃ z, T i = z := ⟨_, rfl⟩
        rw [hz] at hpi
        have hne : (m : Int) ≠ 0 := by omega
        have hnm : ¬ (m : Int) = -1 := by omega
        have hlo : -(m : Int) < z.tmod m := by have := Int.lt_tmod_of_pos z (show (0 : Int) < m by omega); omega
        have hhi : z.tmod m < (m : Int) := Int.tmod_lt_of_pos z (by omega)
        obtain ⟨r, hr⟩ : ∃ r, z.tmod (m : Int) = r := ⟨_, rfl⟩
        rw [hr] at hlo hhi
        have hws : IntKind.i64.wrap (r + (m : Int)) = r + (m : Int) := by rw [IntKind.wrap_i64]; omega
        obtain ⟨k, hk⟩ : ∃ k : Nat, (r + (m : Int)).tmod (m : Int) = (k : Int) := ⟨((r + (m : Int)).tmod (m : Int)).toNat, by have := Int.tmod_nonneg (m : Int) (show 0 ≤ r + (m : Int) by omega); omega⟩
        have hkm : k < m := by have := Int.tmod_lt_of_pos (r + (m : Int)) (show (0 : Int) < m by omega); rw [hk] at this; omega
        clear hpc hPP hlo hhi hz hm1
        have HEK := aside (show nthE R k ∈ R from List.mem_of_getElem? (nthE_get (l := R) (i := k) (by rw [HLN.out]; omega)))
        obtain ⟨x, hx⟩ : ∃ x, nthE R k = x := ⟨_, rfl⟩
        obtain ⟨c0, c1, c2, c3, c4⟩ := row_cells HM.out.rest (i := k) (by rw [HLN.out]; omega)
        rw [hx] at c0 c1 c2 c3 c4 HEK
        have HX := aside hx
        have hk0 : (0 : Int) ≤ (k : Int) := by omega
        have hkm' : (k : Int) < (m : Int) := by omega
        have HC := aside (HI.out.chk ma.out mb.out HEK.out)
        have HLM := aside (show M.length + 1 ≤ 2147483648 from by have h1 := HI.out.len; have h2 := HN.out; omega)
        have bN := aside (bnew wr (.cells #[.string x.k, .int .i64 x.c, .int .i64 x.n, .string x.v, .bool x.d] 29))
        have LX := aside (Lst.row (own_oneE wr wr.heap.size (Nat.le_refl _) x) (one_map HC.out).keys)
        have LM := aside (Lst.keep (show Lst wr da dn dc M from by obtain ⟨Bm, h1, -⟩ := HM.out.made; exact Lst.row h1 HI.out.map.keys) bN.out)
        have HST := aside (HI.out.step ma.out mb.out (m := m1) (k := k) (by rw [HLN.out]; exact HM1.out) (by have := HM1.out; omega))
        rw [HX.out] at HST
        clear hx
        go_wp2_with fail
        refine (maxS LM.out LX.out HI.out.map (one_map HC.out) HLM.out).mono ?_
        rintro e w5 ⟨v5, rfl, ho, b5⟩
        have O5 := aside ho
        have B5 := aside (bthen bN.out b5)
        obtain ⟨n5, hn5⟩ : ∃ n, (mxL M [x]).length = n := ⟨_, rfl⟩
        rw [hn5] at O5
        obtain ⟨a5, k5, rfl, -⟩ := own_slice O5.out
        obtain ⟨y, hy⟩ : ∃ y, nthE R m1 = y := ⟨_, rfl⟩
        have HY := aside hy
        have R5 := aside (own_on HM.out.rest B5.out)
        clear c0 c1 c2 c3 c4 ho b5 hn5 hy
        obtain ⟨c0, c1, c2, c3, c4⟩ := row_cells R5.out (i := k) (by rw [HLN.out]; omega)
        obtain ⟨d0, d1, d2, d3, d4⟩ := row_cells R5.out (i := m1) (by rw [HLN.out]; omega)
        rw [HX.out] at c0 c1 c2 c3 c4
        rw [HY.out] at d0 d1 d2 d3 d4
        have f0 := row_frozen R5.out (k * 5)
        have f1 := row_frozen R5.out (k * 5 + 1)
        have f2 := row_frozen R5.out (k * 5 + 2)
        have f3 := row_frozen R5.out (k * 5 + 3)
        have f4 := row_frozen R5.out (k * 5 + 4)
        have HS := aside (HM.out.step B5.out (show wr.heap.size ≤ (wr.alloc (.cells #[.string x.k, .int .i64 x.c, .int .i64 x.n, .string x.v, .bool x.d] 29)).heap.size from by simp) O5.out HM1.out (k := k) (by omega) y HY.out)
        clear LM LX HX HY R5 O5 bN HC HEK B5 HM
        go_wp2
        go_roundw
        case rel => exact ⟨i + 1, m1, some ⟨g, 0, none⟩, rc, pulled R m1 k, a5, n5, k5, mxL M [x], rfl, rfl, by go_num, HST.out, HS.out⟩
        case measure => have h1 := HI.out.cnt; have h2 := HLN.out; have h3 := HNN.out; simp [intOf]; omega
      · clear hm1
        have HEK := aside (show nthE R 0 ∈ R from List.mem_of_getElem? (nthE_get (l := R) (i := 0) (by rw [HLN.out]; omega)))
        obtain ⟨x, hx⟩ : ∃ x, nthE R 0 = x := ⟨_, rfl⟩
        obtain ⟨c0, c1, c2, c3, c4⟩ := row_cells HM.out.rest (i := 0) (by rw [HLN.out]; omega)
        rw [hx] at c0 c1 c2 c3 c4 HEK
        simp only [Nat.zero_mul, Nat.zero_add] at c0 c1 c2 c3 c4
        have HX := aside hx
        have hk0 : (0 : Int) ≤ (0 : Int) := by omega
        have hkm' : (0 : Int) < (m : Int) := by omega
        have HC := aside (HI.out.chk ma.out mb.out HEK.out)
        have HLM := aside (show M.length + 1 ≤ 2147483648 from by have h1 := HI.out.len; have h2 := HN.out; omega)
        have bN := aside (bnew wr (.cells #[.string x.k, .int .i64 x.c, .int .i64 x.n, .string x.v, .bool x.d] 29))
        have LX := aside (Lst.row (own_oneE wr wr.heap.size (Nat.le_refl _) x) (one_map HC.out).keys)
        have LM := aside (Lst.keep (show Lst wr da dn dc M from by obtain ⟨Bm, h1, -⟩ := HM.out.made; exact Lst.row h1 HI.out.map.keys) bN.out)
        have HST := aside (HI.out.step ma.out mb.out (m := m1) (k := 0) (by rw [HLN.out]; exact HM1.out) (by have := HM1.out; omega))
        rw [HX.out] at HST
        clear hx
        go_wp2_with fail
        refine (maxS LM.out LX.out HI.out.map (one_map HC.out) HLM.out).mono ?_
        rintro e w5 ⟨v5, rfl, ho, b5⟩
        have O5 := aside ho
        have B5 := aside (bthen bN.out b5)
        obtain ⟨n5, hn5⟩ : ∃ n, (mxL M [x]).length = n := ⟨_, rfl⟩
        rw [hn5] at O5
        obtain ⟨a5, k5, rfl, -⟩ := own_slice O5.out
        obtain ⟨y, hy⟩ : ∃ y, nthE R m1 = y := ⟨_, rfl⟩
        have HY := aside hy
        have R5 := aside (own_on HM.out.rest B5.out)
        clear c0 c1 c2 c3 c4 ho b5 hn5 hy
        obtain ⟨c0, c1, c2, c3, c4⟩ := row_cells R5.out (i := 0) (by rw [HLN.out]; omega)
        obtain ⟨d0, d1, d2, d3, d4⟩ := row_cells R5.out (i := m1) (by rw [HLN.out]; omega)
        rw [HX.out] at c0 c1 c2 c3 c4
        simp only [Nat.zero_mul, Nat.zero_add] at c0 c1 c2 c3 c4
        rw [HY.out] at d0 d1 d2 d3 d4
        have f0 := row_frozen R5.out (0)
        have f1 := row_frozen R5.out (1)
        have f2 := row_frozen R5.out (2)
        have f3 := row_frozen R5.out (3)
        have f4 := row_frozen R5.out (4)
        have HS := aside (HM.out.step B5.out (show wr.heap.size ≤ (wr.alloc (.cells #[.string x.k, .int .i64 x.c, .int .i64 x.n, .string x.v, .bool x.d] 29)).heap.size from by simp) O5.out HM1.out (k := 0) (by omega) y HY.out)
        simp only [Nat.zero_mul, Nat.zero_add] at HS
        clear LM LX HX HY R5 O5 bN HC HEK B5 HM
        go_wp2
        go_roundw
        case rel => exact ⟨i + 1, m1, some ⟨g, 0, none⟩, rc, pulled R m1 0, a5, n5, k5, mxL M [x], rfl, rfl, by go_num, HST.out, HS.out⟩
        case measure => have h1 := HI.out.cnt; have h2 := HLN.out; have h3 := HNN.out; simp [intOf]; omega
    · have hm0 : m = 0 := by omega
      have HR := aside (show R = [] from List.length_eq_zero_iff.1 (by rw [HLN.out]; exact hm0))
      have HID := HI.out
      rw [HR.out] at HID
      have HE := aside (HID.done ma.out mb.out HK.out.2.2)
      have LM := aside (show Lst wr da dn dc M from by obtain ⟨Bm, h1, -⟩ := HM.out.made; exact Lst.row h1 HI.out.map.keys)
      have HGE := aside (mx_ge Ma Mb)
      have BB := aside HM.out.bel
      clear HID HM
      go_wp2_with fail
      refine (maxL_ok (La.out.keep BB.out) (Lb.out.keep BB.out) ma.out mb.out (by have := HN.out; omega)).mono ?_
      rintro e w5 ⟨a5, n5, c5, rfl, l5, b5⟩
      have L5 := aside l5
      replace LM := aside (LM.out.keep b5)
      replace BB := aside (bthen BB.out b5)
      clear l5 b5
      go_wp2_with fail
      refine (sameL LM.out L5.out HE.out).mono ?_
      rintro e w6 ⟨rfl, b6⟩
      replace BB := aside (bthen BB.out b6)
      have hA : (la : Int) ≤ (n5 : Int) := by have h1 := L5.out.len; have h2 := HGE.out; have h3 := HLL.out; omega
      have hB : (lb : Int) ≤ (n5 : Int) := by have h1 := L5.out.len; have h2 := HGE.out; have h3 := HLL.out; omega
      clear b6 LM L5
      by_cases hab : (la : Int) < (lb : Int)
      · go_wp2
        go_ret
        exact ⟨rfl, bthen BW.out BB.out⟩
      · go_wp2
        go_ret
        exact ⟨rfl, bthen BW.out BB.out⟩

end Go.Proofs.Ytgailbfoicoaiaa

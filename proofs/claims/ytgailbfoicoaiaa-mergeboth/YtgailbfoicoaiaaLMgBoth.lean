/-
  The law MergeBoth, walked.
-/
import Derived.Test.YtgailbfoicoaiaaMgBth
namespace Go.Proofs.Ytgailbfoicoaiaa
open Go.RowKit Go.Shelf
set_option linter.unusedVariables false

attribute [local go_sem] Oper.semAt_some

set_option maxHeartbeats 12800000 in
set_option maxRecDepth 100000 in
theorem lmboth_walk (a : Option Addr) (la ca : Nat) (Ma : List En) (b : Option Addr) (lb cb : Nat) (Mb : List En) (z : Int) (w : World) (ha : Lst w a la ca Ma) (hb : Lst w b lb cb Mb) (fa : (a = none ∧ la = 0 ∧ ca = 0) ∨ ∃ y, a = some y) (fb : (b = none ∧ lb = 0 ∧ cb = 0) ∨ ∃ y, b = some y) :
    Calls Try.prog 6 #[.slice a la ca, .slice b lb cb, .int .i64 z] w fun e w' => e = .returned (.bool true) ∧ Below w.heap.size w w' := by
  have B0 := aside (bthen (bnew w (.cells #[.int .i64 z] 3)) (bnew (w.alloc (.cells #[.int .i64 z] 3)) (.cells #[.bool false] 4)))
  have KS := aside (blk_on (heap_alloc_new w (.cells #[.int .i64 z] 3)) (bnew (w.alloc (.cells #[.int .i64 z] 3)) (.cells #[.bool false] 4)))
  have k1 := heap_alloc_new (w.alloc (.cells #[.int .i64 z] 3)) (.cells #[.bool false] 4)
  rw [World.size_alloc] at k1
  have KR := aside k1
  have La := aside (ha.keep B0.out)
  have Lb := aside (hb.keep B0.out)
  have KX := aside ha.keys
  have KY := aside hb.keys
  have HLA := aside ha.len
  have HLB := aside hb.len
  have FA := aside fa
  have FB := aside fb
  obtain ⟨q, hq⟩ : ∃ q, ck2L Ma Mb = q := ⟨_, rfl⟩
  have HQ := aside hq
  have CB := aside (beyond2 La.out Lb.out)
  rw [World.size_alloc, World.size_alloc] at CB
  have H0 := aside (show ((w.alloc (.cells #[.int .i64 z] 3)).alloc (.cells #[.bool false] 4)).heap.size = w.heap.size + 2 from by simp)
  clear ha hb fa fb hq k1
  refine (callsIn_wide (n := 9)).1 ?_
  refine callsIn_of_wp_marks Try.func6 rfl trivial ?_ rfl
  simp only [Try.ntmps6, List.size_toArray, List.length_cons, List.length_nil, Nat.reduceAdd, Nat.reduceSub, Array.replicate_succ, Array.replicate_zero, List.push_toArray, List.append_toArray, List.nil_append, List.cons_append]
  gi_wp2_with fail
  refine ⟨trivial, ?_⟩
  refine (callsIn_wide.2 (CB.out)).mono ?_
  rintro e w1 ⟨p, rfl, hp, b0⟩
  have b1 : Below ((w.alloc (.cells #[.int .i64 z] 3)).alloc (.cells #[.bool false] 4)).heap.size ((w.alloc (.cells #[.int .i64 z] 3)).alloc (.cells #[.bool false] 4)) w1 := by rw [H0.out]; exact b0
  have BW := aside (bthen B0.out b1)
  replace La := aside (La.out.keep b1)
  replace Lb := aside (Lb.out.keep b1)
  replace KS := aside (blk_on KS.out b1)
  replace KR := aside (blk_on KR.out b1)
  have HP := aside hp
  obtain ⟨sb, hsb⟩ : ∃ sb, w.heap.size = sb := ⟨_, rfl⟩
  have HSB := aside hsb
  have N1 := aside (show sb + 2 ≤ w1.heap.size from by have := b1.size; rw [H0.out, hsb] at this; exact this)
  rw [hsb] at KS KR ⊢
  clear b0 b1 hp CB B0 H0 hsb
  have c0 := cell_one KR.out
  have z0 := frozen_one KR.out
  cases p
  case true =>
    have TS := aside (show (w1.setCell ⟨sb + 1, 0, none⟩ (.bool true)).heap[sb + 1]? = some (.cells #[.bool true] 4 (0, 0)) from by rw [heap_setCell_same w1 (sb + 1) 0 _ _ (.bool true) KR.out]; rfl)
    have TB := aside (BW.out.setCell (p := ⟨sb + 1, 0, none⟩) (by show w.heap.size ≤ sb + 1; rw [HSB.out]; omega) (.bool true))
    gi_wp2
    have d0 := cell_one TS.out
    exact ⟨.bool true, by simp [results, Try.f6, go_sem, d0], rfl, TB.out⟩
  clear c0 z0
  have HA := aside (show la ≤ 1073741824 from by have h1 := HP.out rfl; have h2 := HLA.out; omega)
  have HB := aside (show lb ≤ 1073741824 from by have h1 := HP.out rfl; have h2 := HLB.out; omega)
  clear HP
  gi_wp2_with fail
  refine ⟨trivial, ?_⟩
  refine (callsIn_wide.2 (copied_any a la ca Ma _ La.out FA.out HA.out)).mono ?_
  rintro e w2 ⟨gx, rfl, hc, b2⟩
  have CX := aside hc
  have N2 := aside (show w1.heap.size ≤ gx ∧ gx < w2.heap.size from hc.1.lt gx rfl)
  replace BW := aside (bthen BW.out b2)
  replace La := aside (La.out.keep b2)
  replace Lb := aside (Lb.out.keep b2)
  replace KS := aside (blk_on KS.out b2)
  replace KR := aside (blk_on KR.out b2)
  clear hc b2
  gi_wp2_with fail
  refine ⟨trivial, ?_⟩
  refine (callsIn_wide.2 (copied_any b lb cb Mb _ Lb.out FB.out HB.out)).mono ?_
  rintro e w3 ⟨gy, rfl, hc, b3⟩
  have CY := aside hc
  have N3 := aside (show w2.heap.size ≤ gy ∧ gy < w3.heap.size from hc.1.lt gy rfl)
  replace CX := aside (CX.out.keep b3)
  replace BW := aside (bthen BW.out b3)
  replace La := aside (La.out.keep b3)
  replace Lb := aside (Lb.out.keep b3)
  replace KS := aside (blk_on KS.out b3)
  replace KR := aside (blk_on KR.out b3)
  clear hc b3
  gi_wp2_with fail
  refine ⟨trivial, ?_⟩
  refine (callsIn_wide.2 (pairsL La.out Lb.out (by have := HA.out; have := HB.out; omega) HQ.out)).mono ?_
  rintro e w4 ⟨gp, n, cp, rfl, hc, b4⟩
  have OP := aside hc
  have N4 := aside (show w3.heap.size ≤ gp ∧ gp < w4.heap.size from hc.lt gp rfl)
  have b5 := bthen b4 (bnew w4 (.cells #[.slice (some ⟨gp, 0, none⟩) n cp] 43))
  replace CX := aside (CX.out.keep b5)
  replace CY := aside (CY.out.keep b5)
  replace BW := aside (bthen BW.out b5)
  replace La := aside (La.out.keep b5)
  replace Lb := aside (Lb.out.keep b5)
  replace KS := aside (blk_on KS.out b5)
  replace KR := aside (blk_on KR.out b5)
  replace OP := aside (own_on OP.out (bnew w4 (.cells #[.slice (some ⟨gp, 0, none⟩) n cp] 43)))
  have KW := aside (heap_alloc_new w4 (.cells #[.slice (some ⟨gp, 0, none⟩) n cp] 43))
  have H5 := aside (show (w4.alloc (.cells #[.slice (some ⟨gp, 0, none⟩) n cp] 43)).heap.size = w4.heap.size + 1 from by simp)
  clear hc b4 b5
  gi_wp2_with fail
  refine ⟨trivial, ?_⟩
  refine (callsIn_wide.2 (bothL (CX.out.lst KX.out) (CY.out.lst KY.out) (by have := HA.out; have := HB.out; omega) HQ.out)).mono ?_
  rintro e w6 ⟨Ba, a6, n6, c6, A6, e6, m6, d6, B6, rfl, sd, h1, h2, h3, h4, b6⟩
  have SD6 := aside sd
  have HPR := aside h4
  have N6 := aside (show w4.heap.size + 1 ≤ Ba from by rw [← H5.out]; exact h1)
  have NA := aside (show ∀ y, a6 = some y → w4.heap.size + 1 ≤ y.block from fun y hy => by rw [← H5.out]; exact h2 y hy)
  have NB := aside (show ∀ y, e6 = some y → w4.heap.size + 1 ≤ y.block from fun y hy => by rw [← H5.out]; exact h3 y hy)
  replace CX := aside (CX.out.keep b6)
  replace CY := aside (CY.out.keep b6)
  replace BW := aside (bthen BW.out b6)
  replace La := aside (La.out.keep b6)
  replace Lb := aside (Lb.out.keep b6)
  replace KS := aside (blk_on KS.out b6)
  replace KR := aside (blk_on KR.out b6)
  replace KW := aside (blk_on KW.out b6)
  replace OP := aside (own_on OP.out b6)
  have hfn := func_nilB
  obtain ⟨wb, hwb⟩ : ∃ wb, w4.heap.size = wb := ⟨_, rfl⟩
  rw [hwb] at KW N4 N6 NA NB ⊢
  clear sd h1 h2 h3 h4 b6 H5 hwb
  gi_wp2_with fail
  refine ⟨trivial, ?_⟩
  refine (callsIn_wide.2 (kept_any CX.out La.out HA.out)).mono ?_
  rintro e w7 ⟨rfl, b7⟩
  replace CX := aside (CX.out.keep b7)
  replace CY := aside (CY.out.keep b7)
  replace La := aside (La.out.keep b7)
  replace Lb := aside (Lb.out.keep b7)
  replace SD6 := aside (SD6.out.keep b7)
  replace KS := aside (blk_on KS.out b7)
  replace KR := aside (blk_on KR.out b7)
  replace KW := aside (blk_on KW.out b7)
  replace OP := aside (own_on OP.out b7)
  replace BW := aside (bthen BW.out b7)
  clear b7 hfn
  gi_wp2_with fail
  refine ⟨trivial, ?_⟩
  refine (callsIn_wide.2 (kept_any CY.out Lb.out HB.out)).mono ?_
  rintro e w8 ⟨rfl, b8⟩
  replace CX := aside (CX.out.keep b8)
  replace CY := aside (CY.out.keep b8)
  replace La := aside (La.out.keep b8)
  replace Lb := aside (Lb.out.keep b8)
  replace SD6 := aside (SD6.out.keep b8)
  replace KS := aside (blk_on KS.out b8)
  replace KR := aside (blk_on KR.out b8)
  replace KW := aside (blk_on KW.out b8)
  replace OP := aside (own_on OP.out b8)
  replace BW := aside (bthen BW.out b8)
  have HWS := aside (show w1.heap.size ≤ w8.heap.size from by have h1 := N2.out; have h2 := (CX.out.1.lt gx rfl); omega)
  have HW2 := aside (show w2.heap.size ≤ w8.heap.size from by have h1 := N3.out; have h2 := (CY.out.1.lt gy rfl); omega)
  clear b8 La Lb
  gi_wp2_with fail
  refine ⟨trivial, ?_⟩
  refine (callsIn_wide.2 (espoil_any w1.heap.size la _ _ _ CX.out.row HWS.out (by have := HA.out; omega))).mono ?_
  rintro e w9 ⟨rfl, k9⟩
  have NN := aside (show sb + 1 < gx ∧ gx < gy ∧ gy < gp ∧ gp < wb ∧ wb + 1 ≤ Ba ∧ w.heap.size = sb from by have h1 := N1.out; have h2 := N2.out; have h3 := N3.out; have h4 := N4.out; have h5 := N6.out; have h6 := HSB.out; omega)
  replace SD6 := aside (SD6.out.kept k9 (fun e => by have h := NN.out; have e2 := own_is e; omega) (fun e => by have h := NN.out; have e2 := own_is e; omega) (fun y hy e => by have h := NN.out; have h2 := NA.out y hy; have e2 := own_is e; omega) (fun y hy e => by have h := NN.out; have h2 := NB.out y hy; have e2 := own_is e; omega))
  replace KS := aside (blk_kept KS.out k9 (fun e => by have h := NN.out; have e2 := own_is e; omega))
  replace KR := aside (blk_kept KR.out k9 (fun e => by have h := NN.out; have e2 := own_is e; omega))
  replace KW := aside (blk_kept KW.out k9 (fun e => by have h := NN.out; have e2 := own_is e; omega))
  replace OP := aside (ownsRow_keep OP.out k9 (fun j h1 e => by have h := NN.out; have e2 := own_is e; have h2 := own_is h1; omega))
  have RY := aside (ownsRow_keep CY.out.row k9 (fun j h1 e => by have h := NN.out; have e2 := own_is e; have h2 := own_is h1; omega))
  replace BW := aside (BW.out.trans (k9.below BW.out.size (fun j hj e => by have h := NN.out; have e2 := own_is e; omega)))
  have HW3 := aside (show w2.heap.size ≤ w9.heap.size from Nat.le_trans HW2.out k9.size)
  clear k9 CX CY
  gi_wp2_with fail
  refine ⟨trivial, ?_⟩
  refine (callsIn_wide.2 (espoil_any w2.heap.size lb _ _ _ RY.out HW3.out (by have := HB.out; omega))).mono ?_
  rintro e V ⟨rfl, k9⟩
  replace SD6 := aside (SD6.out.kept k9 (fun e => by have h := NN.out; have e2 := own_is e; omega) (fun e => by have h := NN.out; have e2 := own_is e; omega) (fun y hy e => by have h := NN.out; have h2 := NA.out y hy; have e2 := own_is e; omega) (fun y hy e => by have h := NN.out; have h2 := NB.out y hy; have e2 := own_is e; omega))
  replace KS := aside (blk_kept KS.out k9 (fun e => by have h := NN.out; have e2 := own_is e; omega))
  replace KR := aside (blk_kept KR.out k9 (fun e => by have h := NN.out; have e2 := own_is e; omega))
  replace KW := aside (blk_kept KW.out k9 (fun e => by have h := NN.out; have e2 := own_is e; omega))
  replace OP := aside (ownsRow_keep OP.out k9 (fun j h1 e => by have h := NN.out; have e2 := own_is e; have h2 := own_is h1; omega))
  replace BW := aside (BW.out.trans (k9.below BW.out.size (fun j hj e => by have h := NN.out; have e2 := own_is e; omega)))
  have N0 := aside (show sb = w.heap.size from HSB.out.symm)
  clear k9 RY NA NB N1 N2 N3 N4 N6 HWS HW2 HW3 HSB KX KY FA FB HQ
  gi_wp2_with fail
  have LV0 := aside (LpB.start V)
  have c6 := cell_one KR.out
  have z6 := frozen_one KR.out
  have NV := aside (show sb + 1 < V.heap.size ∧ wb < V.heap.size ∧ Ba + 1 < V.heap.size from ⟨(Array.getElem?_eq_some_iff.1 KR.out).1, (Array.getElem?_eq_some_iff.1 KW.out).1, (Array.getElem?_eq_some_iff.1 SD6.out.xb).1⟩)
  obtain ⟨l, hl⟩ : ∃ l, outL q (prs Ma Mb) = l := ⟨_, rfl⟩
  rw [hl] at HPR OP
  have HLN := aside (show l.length = n from by have := OP.out.1; rw [prCells_length] at this; omega)
  have hnb : (n : Int) ≤ 2147483648 := by
    have h1 := HLN.out
    have h2 := len_out q (prs Ma Mb)
    have h3 := prs_len Ma Mb
    have h4 := HA.out
    have h5 := HB.out
    have h6 := HLA.out
    have h7 := HLB.out
    rw [hl] at h2
    omega
  clear hl c6 z6
  refine wpIn_loop (fun a' X => ∃ (Ds : List Nat) (tb : Nat) (u3 u4 u7 u8 u12 u13 u14 u15 u16 u17 u18 u19 u20 u21 u22 u23 u24 u25 u26 u27 u28 u29 u30 u31 u32 u33 u34 u35 u36 u37 u38 u39 u40 u41 u42 u43 u44 u45 u46 u47 u48 u49 u50 u51 u52 u53 u54 u55 u56 u57 u58 u59 u60 u61 u62 u63 u64 u65 u66 u67 u68 u69 u70 u71 u72 u73 u74 u75 u76 u77 u78 u79 u80 u81 u82 u83 u84 u85 u86 u87 u88 u89 u90 u91 u92 u93 u94 u95 u96 u97 u98 u99 : Value), a' = ⟨#[.slice a la ca, .slice b lb cb, .int .i64 z, u3, u4, .pointer (some ⟨sb, 0, none⟩), .pointer (some ⟨sb + 1, 0, none⟩), u7, u8, .pointer (some ⟨wb, 0, none⟩), .func (.func 46) #[] #[.pointer (some ⟨Ba, 0, none⟩), .pointer (some ⟨Ba + 1, 0, none⟩)], .pointer (some ⟨tb, 0, none⟩), u12, u13, u14, u15, u16, u17, u18, u19, u20, u21, u22, u23, u24, u25, u26, u27, u28, u29, u30, u31, u32, u33, u34, u35, u36, u37, u38, u39, u40, u41, u42, u43, u44, u45, u46, u47, u48, u49, u50, u51, u52, u53, u54, u55, u56, u57, u58, u59, u60, u61, u62, u63, u64, u65, u66, u67, u68, u69, u70, u71, u72, u73, u74, u75, u76, u77, u78, u79, u80, u81, u82, u83, u84, u85, u86, u87, u88, u89, u90, u91, u92, u93, u94, u95, u96, u97, u98, u99], Ds.map (fun D => ({ target := .collected D, args := #[] } : Deferred))⟩ ∧ Ds.length ≤ 2 ∧ Hid (LpB V Ds tb X)) (fun a' _ => 2 - a'.defers.length) ⟨[], _, _, _, _, _, _, _, _, _, _, _, _, _, _, _, _, _, _, _, _, _, _, _, _, _, _, _, _, _, _, _, _, _, _, _, _, _, _, _, _, _, _, _, _, _, _, _, _, _, _, _, _, _, _, _, _, _, _, _, _, _, _, _, _, _, _, _, _, _, _, _, _, _, _, _, _, _, _, _, _, _, _, _, _, _, _, _, _, _, _, _, _, _, rfl, by simp, LV0.out⟩ ?_
  rintro a' V1 ⟨Ds, tb, u3, u4, u7, u8, u12, u13, u14, u15, u16, u17, u18, u19, u20, u21, u22, u23, u24, u25, u26, u27, u28, u29, u30, u31, u32, u33, u34, u35, u36, u37, u38, u39, u40, u41, u42, u43, u44, u45, u46, u47, u48, u49, u50, u51, u52, u53, u54, u55, u56, u57, u58, u59, u60, u61, u62, u63, u64, u65, u66, u67, u68, u69, u70, u71, u72, u73, u74, u75, u76, u77, u78, u79, u80, u81, u82, u83, u84, u85, u86, u87, u88, u89, u90, u91, u92, u93, u94, u95, u96, u97, u98, u99, rfl, hDs, HL⟩
  have BV := aside HL.out.bel
  have KS1 := aside (blk_on KS.out BV.out)
  have KR1 := aside (blk_on KR.out BV.out)
  have KW1 := aside (blk_on KW.out BV.out)
  have OP1 := aside (own_on OP.out BV.out)
  have SD1 := aside (SD6.out.keep BV.out)
  obtain ⟨tm, htm⟩ : ∃ tm, Ds.length = tm := ⟨_, rfl⟩
  have HTM := aside htm
  have KT1 := aside HL.out.box
  rw [htm] at KT1 hDs
  have hwt : IntKind.i64.wrap ((tm : Int) + 1) = (tm : Int) + 1 := by rw [IntKind.wrap_i64]; omega
  clear htm
  have t0 := cell_one KT1.out
  by_cases hd2 : (tm : Int) < 2
  · have NB1 := aside (bnew V1 (.cells #[.int .i64 0] 3))
    have KN := aside (heap_alloc_new V1 (.cells #[.int .i64 0] 3))
    gi_wp2_with fail
    obtain ⟨nb, hnbb⟩ : ∃ nb, V1.heap.size = nb := ⟨_, rfl⟩
    have HNB := aside hnbb
    rw [hnbb] at KN ⊢
    clear hnbb t0
    generalize V1.alloc (.cells #[.int .i64 0] 3) = V2 at *
    have HVV := aside (show V1.heap.size ≤ V2.heap.size from NB1.out.size)
    have ownI : OwnFrom V2.heap.size (fun (pre : List (En × En)) X => (∃ r, pre ++ r = l) ∧ X.heap[nb]? = some (.cells #[.int .i64 (pre.length : Int)] 3 (0, 0)) ∧ Below V1.heap.size V1 X) := fun s A Y row hs hg hr => ⟨hs.1, cells_own hs.2.1 hg (fun r e => (hr r e).2), ownFrom_below (β := Unit) (Nat.le_refl V1.heap.size) HVV.out () A Y row hs.2.2 hg hr⟩
    have ownX : ∀ c, OwnFrom V2.heap.size ((fun (c : Code) (pre : List (En × En)) (X : World) => (c = .ret ∧ ¬ ∃ r, pre ++ r = l) ∨ (c = .exit 2 ∧ tm = 0 ∧ (pre.length : Int) = z ∧ X.heap[nb]? = some (.cells #[.int .i64 (pre.length : Int)] 3 (0, 0)) ∧ Below V1.heap.size V1 X)) c) := fun c s A Y row hs hg hr => by
      rcases hs with hs | hs
      · exact .inl hs
      · exact .inr ⟨hs.1, hs.2.1, hs.2.2.1, cells_own hs.2.2.2.1 hg (fun r e => (hr r e).2), ownFrom_below (β := Unit) (Nat.le_refl V1.heap.size) HVV.out () A Y row hs.2.2.2.2 hg hr⟩
    refine rangeO (Kp := KpS Ba (Ba + 1) a6 n6 c6 A6 e6 m6 d6 B6) rfl (enters_of Try.func46 (by kernel_rfl) rfl) (side_seq (SD1.out.keep NB1.out)) KpS.t (fun W l o o' _ h ho => KpS.b W l o o' h ho) (Below.refl _ _) (fun _ => rfl)
      (fun (pre : List (En × En)) X => (∃ r, pre ++ r = l) ∧ X.heap[nb]? = some (.cells #[.int .i64 (pre.length : Int)] 3 (0, 0)) ∧ Below V1.heap.size V1 X) (fun (c : Code) (pre : List (En × En)) (X : World) => (c = .ret ∧ ¬ ∃ r, pre ++ r = l) ∨ (c = .exit 2 ∧ tm = 0 ∧ (pre.length : Int) = z ∧ X.heap[nb]? = some (.cells #[.int .i64 (pre.length : Int)] 3 (0, 0)) ∧ Below V1.heap.size V1 X)) ownI ownX ⟨⟨l, rfl⟩, KN.out, NB1.out⟩
      (fun x a' X => ∃ eb : Nat, a' = ⟨#[.slice a la ca, .slice b lb cb, .int .i64 z, u3, u4, .pointer (some ⟨sb, 0, none⟩), .pointer (some ⟨sb + 1, 0, none⟩), u7, u8, .pointer (some ⟨wb, 0, none⟩), .func (.func 46) #[] #[.pointer (some ⟨Ba, 0, none⟩), .pointer (some ⟨Ba + 1, 0, none⟩)], .pointer (some ⟨tb, 0, none⟩), .pointer (some ⟨nb, 0, none⟩), .pointer (some ⟨eb, 0, none⟩), .pointer (some ⟨eb + 1, 0, none⟩), u15, u16, u17, u18, u19, u20, u21, u22, u23, u24, u25, u26, u27, u28, u29, u30, u31, u32, u33, u34, u35, u36, u37, u38, u39, u40, u41, u42, u43, u44, u45, u46, .int .i64 (tm : Int), .bool true, u49, u50, .func (.func 46) #[] #[.pointer (some ⟨Ba, 0, none⟩), .pointer (some ⟨Ba + 1, 0, none⟩)], .agg #[.string x.1.k, .int .i64 x.1.c, .int .i64 x.1.n, .string x.1.v, .bool x.1.d], .agg #[.string x.2.k, .int .i64 x.2.c, .int .i64 x.2.n, .string x.2.v, .bool x.2.d], u54, u55, u56, u57, u58, u59, u60, u61, u62, u63, u64, u65, u66, u67, u68, u69, u70, u71, u72, u73, u74, u75, u76, u77, u78, u79, u80, u81, u82, u83, u84, u85, u86, u87, u88, u89, u90, u91, u92, u93, u94, u95, u96, u97, u98, u99], []⟩ ∧ X.heap[eb]? = some (.cells #[.string x.1.k, .int .i64 x.1.c, .int .i64 x.1.n, .string x.1.v, .bool x.1.d] 29 (0, 0)) ∧ X.heap[eb + 1]? = some (.cells #[.string x.2.k, .int .i64 x.2.c, .int .i64 x.2.n, .string x.2.v, .bool x.2.d] 29 (0, 0)))
      (fun x a' _ A Y row hs hg hr => by
        obtain ⟨eb, h1, h2, h3⟩ := hs
        exact ⟨eb, h1, cells_own h2 hg (fun r e => (hr r e).2), cells_own h3 hg (fun r e => (hr r e).2)⟩) ?assign ?body ?done ?stop
    case assign =>
      rintro l' pre x X K hi hK
      dsimp only [encP]
      gi_wp2
      have bb := bthen (bnew X (.cells #[.string x.1.k, .int .i64 x.1.c, .int .i64 x.1.n, .string x.1.v, .bool x.1.d] 29)) (bnew _ (.cells #[.string x.2.k, .int .i64 x.2.c, .int .i64 x.2.n, .string x.2.v, .bool x.2.d] 29))
      have k2 := heap_alloc_new (X.alloc (.cells #[.string x.1.k, .int .i64 x.1.c, .int .i64 x.1.n, .string x.1.v, .bool x.1.d] 29)) (.cells #[.string x.2.k, .int .i64 x.2.c, .int .i64 x.2.n, .string x.2.v, .bool x.2.d] 29)
      rw [World.size_alloc] at k2
      exact hK _ _ (kf_below bb) (fun s => s.keep bb) ⟨hi.1, blk_on hi.2.1 bb, hi.2.2.trans (bb.mono hi.2.2.size)⟩ ⟨X.heap.size, rfl, blk_on (heap_alloc_new X _) (bnew _ _), k2⟩
    case body =>
      rintro l' pre ⟨x, y⟩ a' X ⟨hpre, hnx, hbx⟩ ⟨eb, rfl, he, hf⟩ hlen
      dsimp only at he hf ⊢
      have HBX := aside hbx
      have HE := aside he
      have HF := aside hf
      have HPRE := aside hpre
      rw [HPR.out, HLN.out] at hlen
      obtain ⟨k, hk⟩ : ∃ k, pre.length = k := ⟨_, rfl⟩
      have HK := aside hk
      rw [hk] at hnx hlen
      have HNX := aside hnx
      have hkn : ¬ (n : Int) ≤ (k : Int) := by omega
      have hkn' : (k : Int) < (n : Int) := by omega
      have hk0 : (0 : Int) ≤ (k : Int) := by omega
      have hw1 : IntKind.i64.wrap ((k : Int) + 1) = (k : Int) + 1 := by rw [IntKind.wrap_i64]; omega
      obtain ⟨⟨x2, y2⟩, hp2⟩ : ∃ p, l[k]? = some p := ⟨_, List.getElem?_eq_getElem (by rw [HLN.out]; omega)⟩
      have HP := aside hp2
      clear hpre hnx hbx he hf hk hp2 hlen
      by_cases hx : x = x2
      · by_cases hy : y = y2
        · have hNExx : ∀ w, (binOp .neq 29 (.agg #[.string x.k, .int .i64 x.c, .int .i64 x.n, .string x.v, .bool x.d]) (.agg #[.string x.k, .int .i64 x.c, .int .i64 x.n, .string x.v, .bool x.d])).run Try.prog w = .ok (.bool false) w := fun w => by rw [ent_ne]; rw [enEqB_same]; rfl
          have hNEyy : ∀ w, (binOp .neq 29 (.agg #[.string y.k, .int .i64 y.c, .int .i64 y.n, .string y.v, .bool y.d]) (.agg #[.string y.k, .int .i64 y.c, .int .i64 y.n, .string y.v, .bool y.d])).run Try.prog w = .ok (.bool false) w := fun w => by rw [ent_ne]; rw [enEqB_same]; rfl
          have HPN := aside (show ∃ r, (pre ++ [(x, y)]) ++ r = l from pre_next HPRE.out HK.out (by rw [hx, hy]; exact HP.out))
          rw [← hx, ← hy] at HP
          clear hx hy
          gi_wp2_with fail
          refine wpIn_region_held (S := fun Y => Below V1.heap.size V1 Y ∧ Y.cell? ⟨nb, 0, none⟩ = some (.int .i64 (k : Int)) ∧ Y.cell? ⟨wb, 0, none⟩ = some (.slice (some ⟨gp, 0, none⟩) n cp) ∧ (Y.cell? ⟨eb, 0, none⟩ = some (.string x.k) ∧ Y.cell? ⟨eb, 1, none⟩ = some (.int .i64 x.c) ∧ Y.cell? ⟨eb, 2, none⟩ = some (.int .i64 x.n) ∧ Y.cell? ⟨eb, 3, none⟩ = some (.string x.v) ∧ Y.cell? ⟨eb, 4, none⟩ = some (.bool x.d)) ∧ (Y.cell? ⟨(eb + 1), 0, none⟩ = some (.string y.k) ∧ Y.cell? ⟨(eb + 1), 1, none⟩ = some (.int .i64 y.c) ∧ Y.cell? ⟨(eb + 1), 2, none⟩ = some (.int .i64 y.n) ∧ Y.cell? ⟨(eb + 1), 3, none⟩ = some (.string y.v) ∧ Y.cell? ⟨(eb + 1), 4, none⟩ = some (.bool y.d)) ∧ (Y.cell? ⟨gp, k * 10, none⟩ = some (.string x.k) ∧ Y.cell? ⟨gp, k * 10 + 1, none⟩ = some (.int .i64 x.c) ∧ Y.cell? ⟨gp, k * 10 + 2, none⟩ = some (.int .i64 x.n) ∧ Y.cell? ⟨gp, k * 10 + 3, none⟩ = some (.string x.v) ∧ Y.cell? ⟨gp, k * 10 + 4, none⟩ = some (.bool x.d)) ∧ Y.cell? ⟨gp, k * 10 + 5, none⟩ = some (.string y.k) ∧ Y.cell? ⟨gp, k * 10 + 6, none⟩ = some (.int .i64 y.c) ∧ Y.cell? ⟨gp, k * 10 + 7, none⟩ = some (.int .i64 y.n) ∧ Y.cell? ⟨gp, k * 10 + 8, none⟩ = some (.string y.v) ∧ Y.cell? ⟨gp, k * 10 + 9, none⟩ = some (.bool y.d)) (by kernel_rfl) (by kernel_rfl) (fun ⟨_, _, h⟩ => h) ⟨HBX.out.drew, cell_one (blk_on HNX.out (Below.refl _ X).drew), cell_one (blk_on KW1.out (HBX.out.drew)), (box5 (blk_on HE.out (Below.refl _ X).drew)).1, (box5 (blk_on HF.out (Below.refl _ X).drew)).1, pr_cells (own_on OP1.out HBX.out.drew) HP.out⟩ (fun hHeld => ?_)
          refine wpAnyH_take (i := 0) (v := ?_) rfl (by kernel_rfl) (by kernel_rfl) (by kernel_rfl) (fun _ _ _ h => h) (Or.inl ⟨by rfl, ?_⟩) (by assumption) ?_
          rotate_left
          · intro w hSw
            go_simp
            try with_reducible rfl
          simp only [Act.put, List.getElem_toArray, List.getElem_cons_zero, List.setIfInBounds_toArray, List.set_cons_zero, List.set_cons_succ]
          refine wpAnyH_take (i := 1) (v := ?_) rfl (by kernel_rfl) (by kernel_rfl) (by kernel_rfl) (fun _ _ _ h => h) (Or.inl ⟨by rfl, ?_⟩) (by assumption) ?_
          rotate_left
          · intro w hSw
            go_simp
            try with_reducible rfl
          simp only [Act.put, List.getElem_toArray, List.getElem_cons_zero, List.getElem_cons_succ, List.setIfInBounds_toArray, List.set_cons_zero, List.set_cons_succ]
          refine wpAnyH_take (i := 2) (v := ?_) rfl (by kernel_rfl) (by kernel_rfl) (by kernel_rfl) (fun _ _ _ h => h) (Or.inl ⟨by rfl, ?_⟩) (by assumption) ?_
          rotate_left
          · intro w hSw
            go_simp
            try with_reducible rfl
          simp only [Act.put, List.getElem_toArray, List.getElem_cons_zero, List.getElem_cons_succ, List.setIfInBounds_toArray, List.set_cons_zero, List.set_cons_succ]
          refine wpAnyH_take (i := 3) (v := .bool false) rfl (by kernel_rfl) (by kernel_rfl) (by kernel_rfl) (fun _ _ _ h => h) (Or.inl ⟨by rfl, ?_⟩) (by assumption) ?_
          · intro w hSw
            go_simp
            omega
          simp only [Act.put, List.getElem_toArray, List.getElem_cons_zero, List.getElem_cons_succ, List.setIfInBounds_toArray, List.set_cons_zero, List.set_cons_succ]
          refine wpAnyH_take (i := 4) (v := ?_) rfl (by kernel_rfl) (by kernel_rfl) (by kernel_rfl) (fun _ _ _ h => h) (Or.inl ⟨by rfl, ?_⟩) (by assumption) ?_
          rotate_left
          · intro w hSw
            go_simp
            try with_reducible rfl
          simp only [Act.put, List.getElem_toArray, List.getElem_cons_zero, List.getElem_cons_succ, List.setIfInBounds_toArray, List.set_cons_zero, List.set_cons_succ]
          refine wpAnyH_take (i := 5) (v := ?_) rfl (by kernel_rfl) (by kernel_rfl) (by kernel_rfl) (fun _ _ _ h => h) (Or.inl ⟨by rfl, ?_⟩) (by assumption) ?_
          rotate_left
          · intro w hSw
            go_simp
            try with_reducible rfl
          simp only [Act.put, List.getElem_toArray, List.getElem_cons_zero, List.getElem_cons_succ, List.setIfInBounds_toArray, List.set_cons_zero, List.set_cons_succ]
          refine wpAnyH_take (i := 6) (v := ?_) rfl (by kernel_rfl) (by kernel_rfl) (by kernel_rfl) (fun _ _ _ h => h) (Or.inl ⟨by rfl, ?_⟩) (by assumption) ?_
          rotate_left
          · intro w hSw
            go_simp
            try with_reducible rfl
          simp only [Act.put, List.getElem_toArray, List.getElem_cons_zero, List.getElem_cons_succ, List.setIfInBounds_toArray, List.set_cons_zero, List.set_cons_succ]
          refine wpAnyH_take (i := 7) (v := ?_) rfl (by kernel_rfl) (by kernel_rfl) (by kernel_rfl) (fun _ _ _ h => h) (Or.inl ⟨by rfl, ?_⟩) (by assumption) ?_
          rotate_left
          · intro w hSw
            go_simp
            try with_reducible rfl
          simp only [Act.put, List.getElem_toArray, List.getElem_cons_zero, List.getElem_cons_succ, List.setIfInBounds_toArray, List.set_cons_zero, List.set_cons_succ]
          refine wpAnyH_take (i := 8) (v := ?_) rfl (by kernel_rfl) (by kernel_rfl) (by kernel_rfl) (fun _ _ _ h => h) (Or.inl ⟨by rfl, ?_⟩) (by assumption) ?_
          rotate_left
          · intro w hSw
            go_simp
            try with_reducible rfl
          simp only [Act.put, List.getElem_toArray, List.getElem_cons_zero, List.getElem_cons_succ, List.setIfInBounds_toArray, List.set_cons_zero, List.set_cons_succ]
          refine wpAnyH_take (i := 9) (v := ?_) rfl (by kernel_rfl) (by kernel_rfl) (by kernel_rfl) (fun _ _ _ h => h) (Or.inl ⟨by rfl, ?_⟩) (by assumption) ?_
          rotate_left
          · intro w hSw
            go_simp
            try with_reducible rfl
          simp only [Act.put, List.getElem_toArray, List.getElem_cons_zero, List.getElem_cons_succ, List.setIfInBounds_toArray, List.set_cons_zero, List.set_cons_succ]
          refine wpAnyH_take (i := 10) (v := ?_) rfl (by kernel_rfl) (by kernel_rfl) (by kernel_rfl) (fun _ _ _ h => h) (Or.inl ⟨by rfl, ?_⟩) (by assumption) ?_
          rotate_left
          · intro w hSw
            go_simp
            try with_reducible rfl
          simp only [Act.put, List.getElem_toArray, List.getElem_cons_zero, List.getElem_cons_succ, List.setIfInBounds_toArray, List.set_cons_zero, List.set_cons_succ]
          refine wpAnyH_take (i := 11) (v := .bool false) rfl (by kernel_rfl) (by kernel_rfl) (by kernel_rfl) (fun _ _ _ h => h) (Or.inl ⟨by rfl, ?_⟩) (by assumption) ?_
          · intro w hSw
            go_simp
          simp only [Act.put, List.getElem_toArray, List.getElem_cons_zero, List.getElem_cons_succ, List.setIfInBounds_toArray, List.set_cons_zero, List.set_cons_succ]
          refine wpAnyH_take (i := 12) (v := ?_) rfl (by kernel_rfl) (by kernel_rfl) (by kernel_rfl) (fun _ _ _ h => h) (Or.inl ⟨by rfl, ?_⟩) (by assumption) ?_
          rotate_left
          · intro w hSw
            go_simp
            try with_reducible rfl
          simp only [Act.put, List.getElem_toArray, List.getElem_cons_zero, List.getElem_cons_succ, List.setIfInBounds_toArray, List.set_cons_zero, List.set_cons_succ]
          refine wpAnyH_take (i := 13) (v := ?_) rfl (by kernel_rfl) (by kernel_rfl) (by kernel_rfl) (fun _ _ _ h => h) (Or.inl ⟨by rfl, ?_⟩) (by assumption) ?_
          rotate_left
          · intro w hSw
            go_simp
            try with_reducible rfl
          simp only [Act.put, List.getElem_toArray, List.getElem_cons_zero, List.getElem_cons_succ, List.setIfInBounds_toArray, List.set_cons_zero, List.set_cons_succ]
          refine wpAnyH_take (i := 14) (v := ?_) rfl (by kernel_rfl) (by kernel_rfl) (by kernel_rfl) (fun _ _ _ h => h) (Or.inl ⟨by rfl, ?_⟩) (by assumption) ?_
          rotate_left
          · intro w hSw
            go_simp
            try with_reducible rfl
          simp only [Act.put, List.getElem_toArray, List.getElem_cons_zero, List.getElem_cons_succ, List.setIfInBounds_toArray, List.set_cons_zero, List.set_cons_succ]
          refine wpAnyH_take (i := 15) (v := ?_) rfl (by kernel_rfl) (by kernel_rfl) (by kernel_rfl) (fun _ _ _ h => h) (Or.inl ⟨by rfl, ?_⟩) (by assumption) ?_
          rotate_left
          · intro w hSw
            go_simp
            try with_reducible rfl
          simp only [Act.put, List.getElem_toArray, List.getElem_cons_zero, List.getElem_cons_succ, List.setIfInBounds_toArray, List.set_cons_zero, List.set_cons_succ]
          refine wpAnyH_take (i := 16) (v := ?_) rfl (by kernel_rfl) (by kernel_rfl) (by kernel_rfl) (fun _ _ _ h => h) (Or.inl ⟨by rfl, ?_⟩) (by assumption) ?_
          rotate_left
          · intro w hSw
            go_simp
            try with_reducible rfl
          simp only [Act.put, List.getElem_toArray, List.getElem_cons_zero, List.getElem_cons_succ, List.setIfInBounds_toArray, List.set_cons_zero, List.set_cons_succ]
          refine wpAnyH_take (i := 17) (v := ?_) rfl (by kernel_rfl) (by kernel_rfl) (by kernel_rfl) (fun _ _ _ h => h) (Or.inl ⟨by rfl, ?_⟩) (by assumption) ?_
          rotate_left
          · intro w hSw
            go_simp
            try with_reducible rfl
          simp only [Act.put, List.getElem_toArray, List.getElem_cons_zero, List.getElem_cons_succ, List.setIfInBounds_toArray, List.set_cons_zero, List.set_cons_succ]
          refine wpAnyH_take (i := 18) (v := ?_) rfl (by kernel_rfl) (by kernel_rfl) (by kernel_rfl) (fun _ _ _ h => h) (Or.inl ⟨by rfl, ?_⟩) (by assumption) ?_
          rotate_left
          · intro w hSw
            go_simp
            try with_reducible rfl
          simp only [Act.put, List.getElem_toArray, List.getElem_cons_zero, List.getElem_cons_succ, List.setIfInBounds_toArray, List.set_cons_zero, List.set_cons_succ]
          refine wpAnyH_take (i := 19) (v := ?_) rfl (by kernel_rfl) (by kernel_rfl) (by kernel_rfl) (fun _ _ _ h => h) (Or.inl ⟨by rfl, ?_⟩) (by assumption) ?_
          rotate_left
          · intro w hSw
            go_simp
            try with_reducible rfl
          simp only [Act.put, List.getElem_toArray, List.getElem_cons_zero, List.getElem_cons_succ, List.setIfInBounds_toArray, List.set_cons_zero, List.set_cons_succ]
          refine wpAnyH_take (i := 20) (v := .bool false) rfl (by kernel_rfl) (by kernel_rfl) (by kernel_rfl) (fun _ _ _ h => h) (Or.inl ⟨by rfl, ?_⟩) (by assumption) ?_
          · intro w hSw
            go_simp
          simp only [Act.put, List.getElem_toArray, List.getElem_cons_zero, List.getElem_cons_succ, List.setIfInBounds_toArray, List.set_cons_zero, List.set_cons_succ]
          refine wpAnyH_take (i := 21) (v := ?_) rfl (by kernel_rfl) (by kernel_rfl) (by kernel_rfl) (fun _ _ _ h => h) (Or.inl ⟨by rfl, ?_⟩) (by assumption) ?_
          rotate_left
          · intro w hSw
            go_simp
            try with_reducible rfl
          simp only [Act.put, List.getElem_toArray, List.getElem_cons_zero, List.getElem_cons_succ, List.setIfInBounds_toArray, List.set_cons_zero, List.set_cons_succ]
          refine wpAnyH_done (by kernel_rfl) ?_ _
          clear hHeld
          have bd := (Below.refl X.heap.size X).drew
          replace HNX := aside (blk_on HNX.out bd)
          have BD := aside bd
          replace HBX := aside (HBX.out.drew)
          clear bd hNExx hNEyy
          generalize X.drew = X2 at *
          have n0 := cell_one HNX.out
          have nz := frozen_one HNX.out
          have HX3 := aside (show (X2.setCell ⟨nb, 0, none⟩ (.int .i64 ((k : Int) + 1))).heap[nb]? = some (.cells #[.int .i64 ((k : Int) + 1)] 3 (0, 0)) from by rw [heap_setCell_same X2 nb 0 _ _ _ HNX.out]; rfl)
          have HB3 := aside (HBX.out.setCell (p := ⟨nb, 0, none⟩) (by show V1.heap.size ≤ nb; rw [HNB.out]; exact Nat.le_refl _) (.int .i64 ((k : Int) + 1)))
          have n3 := cell_one HX3.out
          have t3 := cell_one (blk_on KT1.out HB3.out)
          have s3 := cell_one (blk_on KS1.out HB3.out)
          have KF := aside ((kf_below (C := V2.heap.size) BD.out).trans ((KeepsOthers.setCell X2 ⟨nb, 0, none⟩ (.int .i64 ((k : Int) + 1))).from V2.heap.size))
          have HLK := aside (show ((pre ++ [(x, y)]).length : Int) = (k : Int) + 1 from by rw [List.length_append, HK.out]; simp)
          by_cases hd0 : tm = 0
          · have e1 : ((tm : Int) == 0) = true := by simp [hd0]
            have HD0 := aside hd0
            clear hd0
            by_cases hkz : (k : Int) + 1 = z
            · have e2 : ((k : Int) + 1 == z) = true := by simpa using hkz
              have HKZ := aside hkz
              clear hkz
              gi_wp2
              exact ⟨KF.out, .inr ⟨rfl, HD0.out, by rw [HLK.out]; exact HKZ.out, by rw [HLK.out]; exact HX3.out, HB3.out⟩⟩
            · have e2 : ((k : Int) + 1 == z) = false := by simpa using hkz
              clear hkz
              gi_wp2
              exact ⟨KF.out, fun _ => SD1.out.keep HB3.out, HPN.out, by rw [HLK.out]; exact HX3.out, HB3.out⟩
          · have e1 : ((tm : Int) == 0) = false := by simp; omega
            clear hd0
            gi_wp2
            exact ⟨KF.out, fun _ => SD1.out.keep HB3.out, HPN.out, by rw [HLK.out]; exact HX3.out, HB3.out⟩
        · have hNExx : ∀ w, (binOp .neq 29 (.agg #[.string x.k, .int .i64 x.c, .int .i64 x.n, .string x.v, .bool x.d]) (.agg #[.string x.k, .int .i64 x.c, .int .i64 x.n, .string x.v, .bool x.d])).run Try.prog w = .ok (.bool false) w := fun w => by rw [ent_ne]; rw [enEqB_same]; rfl
          have hNEyy2 : ∀ w, (binOp .neq 29 (.agg #[.string y.k, .int .i64 y.c, .int .i64 y.n, .string y.v, .bool y.d]) (.agg #[.string y2.k, .int .i64 y2.c, .int .i64 y2.n, .string y2.v, .bool y2.d])).run Try.prog w = .ok (.bool true) w := fun w => by rw [ent_ne]; rw [enEqB_ne hy]; rfl
          have HWR := aside (show ¬ ∃ r, (pre ++ [(x, y)]) ++ r = l from pre_wrong HK.out HP.out (fun e => hy (congrArg Prod.snd e)))
          rw [← hx] at HP
          clear hx hy
          gi_wp2_with fail
          refine wpIn_region_held (S := fun Y => Below V1.heap.size V1 Y ∧ Y.cell? ⟨nb, 0, none⟩ = some (.int .i64 (k : Int)) ∧ Y.cell? ⟨wb, 0, none⟩ = some (.slice (some ⟨gp, 0, none⟩) n cp) ∧ (Y.cell? ⟨eb, 0, none⟩ = some (.string x.k) ∧ Y.cell? ⟨eb, 1, none⟩ = some (.int .i64 x.c) ∧ Y.cell? ⟨eb, 2, none⟩ = some (.int .i64 x.n) ∧ Y.cell? ⟨eb, 3, none⟩ = some (.string x.v) ∧ Y.cell? ⟨eb, 4, none⟩ = some (.bool x.d)) ∧ (Y.cell? ⟨(eb + 1), 0, none⟩ = some (.string y.k) ∧ Y.cell? ⟨(eb + 1), 1, none⟩ = some (.int .i64 y.c) ∧ Y.cell? ⟨(eb + 1), 2, none⟩ = some (.int .i64 y.n) ∧ Y.cell? ⟨(eb + 1), 3, none⟩ = some (.string y.v) ∧ Y.cell? ⟨(eb + 1), 4, none⟩ = some (.bool y.d)) ∧ (Y.cell? ⟨gp, k * 10, none⟩ = some (.string x.k) ∧ Y.cell? ⟨gp, k * 10 + 1, none⟩ = some (.int .i64 x.c) ∧ Y.cell? ⟨gp, k * 10 + 2, none⟩ = some (.int .i64 x.n) ∧ Y.cell? ⟨gp, k * 10 + 3, none⟩ = some (.string x.v) ∧ Y.cell? ⟨gp, k * 10 + 4, none⟩ = some (.bool x.d)) ∧ Y.cell? ⟨gp, k * 10 + 5, none⟩ = some (.string y2.k) ∧ Y.cell? ⟨gp, k * 10 + 6, none⟩ = some (.int .i64 y2.c) ∧ Y.cell? ⟨gp, k * 10 + 7, none⟩ = some (.int .i64 y2.n) ∧ Y.cell? ⟨gp, k * 10 + 8, none⟩ = some (.string y2.v) ∧ Y.cell? ⟨gp, k * 10 + 9, none⟩ = some (.bool y2.d)) (by kernel_rfl) (by kernel_rfl) (fun ⟨_, _, h⟩ => h) ⟨HBX.out.drew, cell_one (blk_on HNX.out (Below.refl _ X).drew), cell_one (blk_on KW1.out (HBX.out.drew)), (box5 (blk_on HE.out (Below.refl _ X).drew)).1, (box5 (blk_on HF.out (Below.refl _ X).drew)).1, pr_cells (own_on OP1.out HBX.out.drew) HP.out⟩ (fun hHeld => ?_)
          refine wpAnyH_take (i := 0) (v := ?_) rfl (by kernel_rfl) (by kernel_rfl) (by kernel_rfl) (fun _ _ _ h => h) (Or.inl ⟨by rfl, ?_⟩) (by assumption) ?_
          rotate_left
          · intro w hSw
            go_simp
            try with_reducible rfl
          simp only [Act.put, List.getElem_toArray, List.getElem_cons_zero, List.setIfInBounds_toArray, List.set_cons_zero, List.set_cons_succ]
          refine wpAnyH_take (i := 1) (v := ?_) rfl (by kernel_rfl) (by kernel_rfl) (by kernel_rfl) (fun _ _ _ h => h) (Or.inl ⟨by rfl, ?_⟩) (by assumption) ?_
          rotate_left
          · intro w hSw
            go_simp
            try with_reducible rfl
          simp only [Act.put, List.getElem_toArray, List.getElem_cons_zero, List.getElem_cons_succ, List.setIfInBounds_toArray, List.set_cons_zero, List.set_cons_succ]
          refine wpAnyH_take (i := 2) (v := ?_) rfl (by kernel_rfl) (by kernel_rfl) (by kernel_rfl) (fun _ _ _ h => h) (Or.inl ⟨by rfl, ?_⟩) (by assumption) ?_
          rotate_left
          · intro w hSw
            go_simp
            try with_reducible rfl
          simp only [Act.put, List.getElem_toArray, List.getElem_cons_zero, List.getElem_cons_succ, List.setIfInBounds_toArray, List.set_cons_zero, List.set_cons_succ]
          refine wpAnyH_take (i := 3) (v := .bool false) rfl (by kernel_rfl) (by kernel_rfl) (by kernel_rfl) (fun _ _ _ h => h) (Or.inl ⟨by rfl, ?_⟩) (by assumption) ?_
          · intro w hSw
            go_simp
            omega
          simp only [Act.put, List.getElem_toArray, List.getElem_cons_zero, List.getElem_cons_succ, List.setIfInBounds_toArray, List.set_cons_zero, List.set_cons_succ]
          refine wpAnyH_take (i := 4) (v := ?_) rfl (by kernel_rfl) (by kernel_rfl) (by kernel_rfl) (fun _ _ _ h => h) (Or.inl ⟨by rfl, ?_⟩) (by assumption) ?_
          rotate_left
          · intro w hSw
            go_simp
            try with_reducible rfl
          simp only [Act.put, List.getElem_toArray, List.getElem_cons_zero, List.getElem_cons_succ, List.setIfInBounds_toArray, List.set_cons_zero, List.set_cons_succ]
          refine wpAnyH_take (i := 5) (v := ?_) rfl (by kernel_rfl) (by kernel_rfl) (by kernel_rfl) (fun _ _ _ h => h) (Or.inl ⟨by rfl, ?_⟩) (by assumption) ?_
          rotate_left
          · intro w hSw
            go_simp
            try with_reducible rfl
          simp only [Act.put, List.getElem_toArray, List.getElem_cons_zero, List.getElem_cons_succ, List.setIfInBounds_toArray, List.set_cons_zero, List.set_cons_succ]
          refine wpAnyH_take (i := 6) (v := ?_) rfl (by kernel_rfl) (by kernel_rfl) (by kernel_rfl) (fun _ _ _ h => h) (Or.inl ⟨by rfl, ?_⟩) (by assumption) ?_
          rotate_left
          · intro w hSw
            go_simp
            try with_reducible rfl
          simp only [Act.put, List.getElem_toArray, List.getElem_cons_zero, List.getElem_cons_succ, List.setIfInBounds_toArray, List.set_cons_zero, List.set_cons_succ]
          refine wpAnyH_take (i := 7) (v := ?_) rfl (by kernel_rfl) (by kernel_rfl) (by kernel_rfl) (fun _ _ _ h => h) (Or.inl ⟨by rfl, ?_⟩) (by assumption) ?_
          rotate_left
          · intro w hSw
            go_simp
            try with_reducible rfl
          simp only [Act.put, List.getElem_toArray, List.getElem_cons_zero, List.getElem_cons_succ, List.setIfInBounds_toArray, List.set_cons_zero, List.set_cons_succ]
          refine wpAnyH_take (i := 8) (v := ?_) rfl (by kernel_rfl) (by kernel_rfl) (by kernel_rfl) (fun _ _ _ h => h) (Or.inl ⟨by rfl, ?_⟩) (by assumption) ?_
          rotate_left
          · intro w hSw
            go_simp
            try with_reducible rfl
          simp only [Act.put, List.getElem_toArray, List.getElem_cons_zero, List.getElem_cons_succ, List.setIfInBounds_toArray, List.set_cons_zero, List.set_cons_succ]
          refine wpAnyH_take (i := 9) (v := ?_) rfl (by kernel_rfl) (by kernel_rfl) (by kernel_rfl) (fun _ _ _ h => h) (Or.inl ⟨by rfl, ?_⟩) (by assumption) ?_
          rotate_left
          · intro w hSw
            go_simp
            try with_reducible rfl
          simp only [Act.put, List.getElem_toArray, List.getElem_cons_zero, List.getElem_cons_succ, List.setIfInBounds_toArray, List.set_cons_zero, List.set_cons_succ]
          refine wpAnyH_take (i := 10) (v := ?_) rfl (by kernel_rfl) (by kernel_rfl) (by kernel_rfl) (fun _ _ _ h => h) (Or.inl ⟨by rfl, ?_⟩) (by assumption) ?_
          rotate_left
          · intro w hSw
            go_simp
            try with_reducible rfl
          simp only [Act.put, List.getElem_toArray, List.getElem_cons_zero, List.getElem_cons_succ, List.setIfInBounds_toArray, List.set_cons_zero, List.set_cons_succ]
          refine wpAnyH_take (i := 11) (v := .bool false) rfl (by kernel_rfl) (by kernel_rfl) (by kernel_rfl) (fun _ _ _ h => h) (Or.inl ⟨by rfl, ?_⟩) (by assumption) ?_
          · intro w hSw
            go_simp
          simp only [Act.put, List.getElem_toArray, List.getElem_cons_zero, List.getElem_cons_succ, List.setIfInBounds_toArray, List.set_cons_zero, List.set_cons_succ]
          refine wpAnyH_take (i := 12) (v := ?_) rfl (by kernel_rfl) (by kernel_rfl) (by kernel_rfl) (fun _ _ _ h => h) (Or.inl ⟨by rfl, ?_⟩) (by assumption) ?_
          rotate_left
          · intro w hSw
            go_simp
            try with_reducible rfl
          simp only [Act.put, List.getElem_toArray, List.getElem_cons_zero, List.getElem_cons_succ, List.setIfInBounds_toArray, List.set_cons_zero, List.set_cons_succ]
          refine wpAnyH_take (i := 13) (v := ?_) rfl (by kernel_rfl) (by kernel_rfl) (by kernel_rfl) (fun _ _ _ h => h) (Or.inl ⟨by rfl, ?_⟩) (by assumption) ?_
          rotate_left
          · intro w hSw
            go_simp
            try with_reducible rfl
          simp only [Act.put, List.getElem_toArray, List.getElem_cons_zero, List.getElem_cons_succ, List.setIfInBounds_toArray, List.set_cons_zero, List.set_cons_succ]
          refine wpAnyH_take (i := 14) (v := ?_) rfl (by kernel_rfl) (by kernel_rfl) (by kernel_rfl) (fun _ _ _ h => h) (Or.inl ⟨by rfl, ?_⟩) (by assumption) ?_
          rotate_left
          · intro w hSw
            go_simp
            try with_reducible rfl
          simp only [Act.put, List.getElem_toArray, List.getElem_cons_zero, List.getElem_cons_succ, List.setIfInBounds_toArray, List.set_cons_zero, List.set_cons_succ]
          refine wpAnyH_take (i := 15) (v := ?_) rfl (by kernel_rfl) (by kernel_rfl) (by kernel_rfl) (fun _ _ _ h => h) (Or.inl ⟨by rfl, ?_⟩) (by assumption) ?_
          rotate_left
          · intro w hSw
            go_simp
            try with_reducible rfl
          simp only [Act.put, List.getElem_toArray, List.getElem_cons_zero, List.getElem_cons_succ, List.setIfInBounds_toArray, List.set_cons_zero, List.set_cons_succ]
          refine wpAnyH_take (i := 16) (v := ?_) rfl (by kernel_rfl) (by kernel_rfl) (by kernel_rfl) (fun _ _ _ h => h) (Or.inl ⟨by rfl, ?_⟩) (by assumption) ?_
          rotate_left
          · intro w hSw
            go_simp
            try with_reducible rfl
          simp only [Act.put, List.getElem_toArray, List.getElem_cons_zero, List.getElem_cons_succ, List.setIfInBounds_toArray, List.set_cons_zero, List.set_cons_succ]
          refine wpAnyH_take (i := 17) (v := ?_) rfl (by kernel_rfl) (by kernel_rfl) (by kernel_rfl) (fun _ _ _ h => h) (Or.inl ⟨by rfl, ?_⟩) (by assumption) ?_
          rotate_left
          · intro w hSw
            go_simp
            try with_reducible rfl
          simp only [Act.put, List.getElem_toArray, List.getElem_cons_zero, List.getElem_cons_succ, List.setIfInBounds_toArray, List.set_cons_zero, List.set_cons_succ]
          refine wpAnyH_take (i := 18) (v := ?_) rfl (by kernel_rfl) (by kernel_rfl) (by kernel_rfl) (fun _ _ _ h => h) (Or.inl ⟨by rfl, ?_⟩) (by assumption) ?_
          rotate_left
          · intro w hSw
            go_simp
            try with_reducible rfl
          simp only [Act.put, List.getElem_toArray, List.getElem_cons_zero, List.getElem_cons_succ, List.setIfInBounds_toArray, List.set_cons_zero, List.set_cons_succ]
          refine wpAnyH_take (i := 19) (v := ?_) rfl (by kernel_rfl) (by kernel_rfl) (by kernel_rfl) (fun _ _ _ h => h) (Or.inl ⟨by rfl, ?_⟩) (by assumption) ?_
          rotate_left
          · intro w hSw
            go_simp
            try with_reducible rfl
          simp only [Act.put, List.getElem_toArray, List.getElem_cons_zero, List.getElem_cons_succ, List.setIfInBounds_toArray, List.set_cons_zero, List.set_cons_succ]
          refine wpAnyH_take (i := 20) (v := .bool true) rfl (by kernel_rfl) (by kernel_rfl) (by kernel_rfl) (fun _ _ _ h => h) (Or.inl ⟨by rfl, ?_⟩) (by assumption) ?_
          · intro w hSw
            go_simp
          simp only [Act.put, List.getElem_toArray, List.getElem_cons_zero, List.getElem_cons_succ, List.setIfInBounds_toArray, List.set_cons_zero, List.set_cons_succ]
          refine wpAnyH_take (i := 21) (v := ?_) rfl (by kernel_rfl) (by kernel_rfl) (by kernel_rfl) (fun _ _ _ h => h) (Or.inl ⟨by rfl, ?_⟩) (by assumption) ?_
          rotate_left
          · intro w hSw
            go_simp
            try with_reducible rfl
          simp only [Act.put, List.getElem_toArray, List.getElem_cons_zero, List.getElem_cons_succ, List.setIfInBounds_toArray, List.set_cons_zero, List.set_cons_succ]
          refine wpAnyH_done (by kernel_rfl) ?_ _
          clear hHeld
          replace KR1 := aside (blk_on KR1.out HBX.out.drew)
          have r0 := cell_one KR1.out
          have rz := frozen_one KR1.out
          gi_wp2
          exact ⟨(kf_below (Below.refl _ X).drew).trans ((KeepsOthers.setCell _ _ _).from _), .inl ⟨rfl, HWR.out⟩⟩
      · have hNExx2 : ∀ w, (binOp .neq 29 (.agg #[.string x.k, .int .i64 x.c, .int .i64 x.n, .string x.v, .bool x.d]) (.agg #[.string x2.k, .int .i64 x2.c, .int .i64 x2.n, .string x2.v, .bool x2.d])).run Try.prog w = .ok (.bool true) w := fun w => by rw [ent_ne]; rw [enEqB_ne hx]; rfl
        have HWR := aside (show ¬ ∃ r, (pre ++ [(x, y)]) ++ r = l from pre_wrong HK.out HP.out (fun e => hx (congrArg Prod.fst e)))
        clear hx
        gi_wp2_with fail
        refine wpIn_region_held (S := fun Y => Below V1.heap.size V1 Y ∧ Y.cell? ⟨nb, 0, none⟩ = some (.int .i64 (k : Int)) ∧ Y.cell? ⟨wb, 0, none⟩ = some (.slice (some ⟨gp, 0, none⟩) n cp) ∧ (Y.cell? ⟨eb, 0, none⟩ = some (.string x.k) ∧ Y.cell? ⟨eb, 1, none⟩ = some (.int .i64 x.c) ∧ Y.cell? ⟨eb, 2, none⟩ = some (.int .i64 x.n) ∧ Y.cell? ⟨eb, 3, none⟩ = some (.string x.v) ∧ Y.cell? ⟨eb, 4, none⟩ = some (.bool x.d)) ∧ (Y.cell? ⟨(eb + 1), 0, none⟩ = some (.string y.k) ∧ Y.cell? ⟨(eb + 1), 1, none⟩ = some (.int .i64 y.c) ∧ Y.cell? ⟨(eb + 1), 2, none⟩ = some (.int .i64 y.n) ∧ Y.cell? ⟨(eb + 1), 3, none⟩ = some (.string y.v) ∧ Y.cell? ⟨(eb + 1), 4, none⟩ = some (.bool y.d)) ∧ (Y.cell? ⟨gp, k * 10, none⟩ = some (.string x2.k) ∧ Y.cell? ⟨gp, k * 10 + 1, none⟩ = some (.int .i64 x2.c) ∧ Y.cell? ⟨gp, k * 10 + 2, none⟩ = some (.int .i64 x2.n) ∧ Y.cell? ⟨gp, k * 10 + 3, none⟩ = some (.string x2.v) ∧ Y.cell? ⟨gp, k * 10 + 4, none⟩ = some (.bool x2.d)) ∧ Y.cell? ⟨gp, k * 10 + 5, none⟩ = some (.string y2.k) ∧ Y.cell? ⟨gp, k * 10 + 6, none⟩ = some (.int .i64 y2.c) ∧ Y.cell? ⟨gp, k * 10 + 7, none⟩ = some (.int .i64 y2.n) ∧ Y.cell? ⟨gp, k * 10 + 8, none⟩ = some (.string y2.v) ∧ Y.cell? ⟨gp, k * 10 + 9, none⟩ = some (.bool y2.d)) (by kernel_rfl) (by kernel_rfl) (fun ⟨_, _, h⟩ => h) ⟨HBX.out.drew, cell_one (blk_on HNX.out (Below.refl _ X).drew), cell_one (blk_on KW1.out (HBX.out.drew)), (box5 (blk_on HE.out (Below.refl _ X).drew)).1, (box5 (blk_on HF.out (Below.refl _ X).drew)).1, pr_cells (own_on OP1.out HBX.out.drew) HP.out⟩ (fun hHeld => ?_)
        refine wpAnyH_take (i := 0) (v := ?_) rfl (by kernel_rfl) (by kernel_rfl) (by kernel_rfl) (fun _ _ _ h => h) (Or.inl ⟨by rfl, ?_⟩) (by assumption) ?_
        rotate_left
        · intro w hSw
          go_simp
          try with_reducible rfl
        simp only [Act.put, List.getElem_toArray, List.getElem_cons_zero, List.setIfInBounds_toArray, List.set_cons_zero, List.set_cons_succ]
        refine wpAnyH_take (i := 1) (v := ?_) rfl (by kernel_rfl) (by kernel_rfl) (by kernel_rfl) (fun _ _ _ h => h) (Or.inl ⟨by rfl, ?_⟩) (by assumption) ?_
        rotate_left
        · intro w hSw
          go_simp
          try with_reducible rfl
        simp only [Act.put, List.getElem_toArray, List.getElem_cons_zero, List.getElem_cons_succ, List.setIfInBounds_toArray, List.set_cons_zero, List.set_cons_succ]
        refine wpAnyH_take (i := 2) (v := ?_) rfl (by kernel_rfl) (by kernel_rfl) (by kernel_rfl) (fun _ _ _ h => h) (Or.inl ⟨by rfl, ?_⟩) (by assumption) ?_
        rotate_left
        · intro w hSw
          go_simp
          try with_reducible rfl
        simp only [Act.put, List.getElem_toArray, List.getElem_cons_zero, List.getElem_cons_succ, List.setIfInBounds_toArray, List.set_cons_zero, List.set_cons_succ]
        refine wpAnyH_take (i := 3) (v := .bool false) rfl (by kernel_rfl) (by kernel_rfl) (by kernel_rfl) (fun _ _ _ h => h) (Or.inl ⟨by rfl, ?_⟩) (by assumption) ?_
        · intro w hSw
          go_simp
          omega
        simp only [Act.put, List.getElem_toArray, List.getElem_cons_zero, List.getElem_cons_succ, List.setIfInBounds_toArray, List.set_cons_zero, List.set_cons_succ]
        refine wpAnyH_take (i := 4) (v := ?_) rfl (by kernel_rfl) (by kernel_rfl) (by kernel_rfl) (fun _ _ _ h => h) (Or.inl ⟨by rfl, ?_⟩) (by assumption) ?_
        rotate_left
        · intro w hSw
          go_simp
          try with_reducible rfl
        simp only [Act.put, List.getElem_toArray, List.getElem_cons_zero, List.getElem_cons_succ, List.setIfInBounds_toArray, List.set_cons_zero, List.set_cons_succ]
        refine wpAnyH_take (i := 5) (v := ?_) rfl (by kernel_rfl) (by kernel_rfl) (by kernel_rfl) (fun _ _ _ h => h) (Or.inl ⟨by rfl, ?_⟩) (by assumption) ?_
        rotate_left
        · intro w hSw
          go_simp
          try with_reducible rfl
        simp only [Act.put, List.getElem_toArray, List.getElem_cons_zero, List.getElem_cons_succ, List.setIfInBounds_toArray, List.set_cons_zero, List.set_cons_succ]
        refine wpAnyH_take (i := 6) (v := ?_) rfl (by kernel_rfl) (by kernel_rfl) (by kernel_rfl) (fun _ _ _ h => h) (Or.inl ⟨by rfl, ?_⟩) (by assumption) ?_
        rotate_left
        · intro w hSw
          go_simp
          try with_reducible rfl
        simp only [Act.put, List.getElem_toArray, List.getElem_cons_zero, List.getElem_cons_succ, List.setIfInBounds_toArray, List.set_cons_zero, List.set_cons_succ]
        refine wpAnyH_take (i := 7) (v := ?_) rfl (by kernel_rfl) (by kernel_rfl) (by kernel_rfl) (fun _ _ _ h => h) (Or.inl ⟨by rfl, ?_⟩) (by assumption) ?_
        rotate_left
        · intro w hSw
          go_simp
          try with_reducible rfl
        simp only [Act.put, List.getElem_toArray, List.getElem_cons_zero, List.getElem_cons_succ, List.setIfInBounds_toArray, List.set_cons_zero, List.set_cons_succ]
        refine wpAnyH_take (i := 8) (v := ?_) rfl (by kernel_rfl) (by kernel_rfl) (by kernel_rfl) (fun _ _ _ h => h) (Or.inl ⟨by rfl, ?_⟩) (by assumption) ?_
        rotate_left
        · intro w hSw
          go_simp
          try with_reducible rfl
        simp only [Act.put, List.getElem_toArray, List.getElem_cons_zero, List.getElem_cons_succ, List.setIfInBounds_toArray, List.set_cons_zero, List.set_cons_succ]
        refine wpAnyH_take (i := 9) (v := ?_) rfl (by kernel_rfl) (by kernel_rfl) (by kernel_rfl) (fun _ _ _ h => h) (Or.inl ⟨by rfl, ?_⟩) (by assumption) ?_
        rotate_left
        · intro w hSw
          go_simp
          try with_reducible rfl
        simp only [Act.put, List.getElem_toArray, List.getElem_cons_zero, List.getElem_cons_succ, List.setIfInBounds_toArray, List.set_cons_zero, List.set_cons_succ]
        refine wpAnyH_take (i := 10) (v := ?_) rfl (by kernel_rfl) (by kernel_rfl) (by kernel_rfl) (fun _ _ _ h => h) (Or.inl ⟨by rfl, ?_⟩) (by assumption) ?_
        rotate_left
        · intro w hSw
          go_simp
          try with_reducible rfl
        simp only [Act.put, List.getElem_toArray, List.getElem_cons_zero, List.getElem_cons_succ, List.setIfInBounds_toArray, List.set_cons_zero, List.set_cons_succ]
        refine wpAnyH_take (i := 11) (v := .bool true) rfl (by kernel_rfl) (by kernel_rfl) (by kernel_rfl) (fun _ _ _ h => h) (Or.inl ⟨by rfl, ?_⟩) (by assumption) ?_
        · intro w hSw
          go_simp
        simp only [Act.put, List.getElem_toArray, List.getElem_cons_zero, List.getElem_cons_succ, List.setIfInBounds_toArray, List.set_cons_zero, List.set_cons_succ]
        refine wpAnyH_take (i := 12) (v := ?_) rfl (by kernel_rfl) (by kernel_rfl) (by kernel_rfl) (fun _ _ _ h => h) (Or.inl ⟨by rfl, ?_⟩) (by assumption) ?_
        rotate_left
        · intro w hSw
          go_simp
          try with_reducible rfl
        simp only [Act.put, List.getElem_toArray, List.getElem_cons_zero, List.getElem_cons_succ, List.setIfInBounds_toArray, List.set_cons_zero, List.set_cons_succ]
        refine wpAnyH_take (i := 13) (v := ?_) rfl (by kernel_rfl) (by kernel_rfl) (by kernel_rfl) (fun _ _ _ h => h) (Or.inl ⟨by rfl, ?_⟩) (by assumption) ?_
        rotate_left
        · intro w hSw
          go_simp
          try with_reducible rfl
        simp only [Act.put, List.getElem_toArray, List.getElem_cons_zero, List.getElem_cons_succ, List.setIfInBounds_toArray, List.set_cons_zero, List.set_cons_succ]
        refine wpAnyH_take (i := 14) (v := undef) rfl (by kernel_rfl) (by kernel_rfl) (by kernel_rfl) (fun _ _ _ h => h) (Or.inr ⟨by rfl, rfl⟩) (by assumption) ?_
        simp only [Act.put, List.getElem_toArray, List.getElem_cons_zero, List.getElem_cons_succ, List.setIfInBounds_toArray, List.set_cons_zero, List.set_cons_succ]
        refine wpAnyH_take (i := 15) (v := undef) rfl (by kernel_rfl) (by kernel_rfl) (by kernel_rfl) (fun _ _ _ h => h) (Or.inr ⟨by rfl, rfl⟩) (by assumption) ?_
        simp only [Act.put, List.getElem_toArray, List.getElem_cons_zero, List.getElem_cons_succ, List.setIfInBounds_toArray, List.set_cons_zero, List.set_cons_succ]
        refine wpAnyH_take (i := 16) (v := undef) rfl (by kernel_rfl) (by kernel_rfl) (by kernel_rfl) (fun _ _ _ h => h) (Or.inr ⟨by rfl, rfl⟩) (by assumption) ?_
        simp only [Act.put, List.getElem_toArray, List.getElem_cons_zero, List.getElem_cons_succ, List.setIfInBounds_toArray, List.set_cons_zero, List.set_cons_succ]
        refine wpAnyH_take (i := 17) (v := undef) rfl (by kernel_rfl) (by kernel_rfl) (by kernel_rfl) (fun _ _ _ h => h) (Or.inr ⟨by rfl, rfl⟩) (by assumption) ?_
        simp only [Act.put, List.getElem_toArray, List.getElem_cons_zero, List.getElem_cons_succ, List.setIfInBounds_toArray, List.set_cons_zero, List.set_cons_succ]
        refine wpAnyH_take (i := 18) (v := undef) rfl (by kernel_rfl) (by kernel_rfl) (by kernel_rfl) (fun _ _ _ h => h) (Or.inr ⟨by rfl, rfl⟩) (by assumption) ?_
        simp only [Act.put, List.getElem_toArray, List.getElem_cons_zero, List.getElem_cons_succ, List.setIfInBounds_toArray, List.set_cons_zero, List.set_cons_succ]
        refine wpAnyH_take (i := 19) (v := undef) rfl (by kernel_rfl) (by kernel_rfl) (by kernel_rfl) (fun _ _ _ h => h) (Or.inr ⟨by rfl, rfl⟩) (by assumption) ?_
        simp only [Act.put, List.getElem_toArray, List.getElem_cons_zero, List.getElem_cons_succ, List.setIfInBounds_toArray, List.set_cons_zero, List.set_cons_succ]
        refine wpAnyH_take (i := 20) (v := undef) rfl (by kernel_rfl) (by kernel_rfl) (by kernel_rfl) (fun _ _ _ h => h) (Or.inr ⟨by rfl, rfl⟩) (by assumption) ?_
        simp only [Act.put, List.getElem_toArray, List.getElem_cons_zero, List.getElem_cons_succ, List.setIfInBounds_toArray, List.set_cons_zero, List.set_cons_succ]
        refine wpAnyH_take (i := 21) (v := ?_) rfl (by kernel_rfl) (by kernel_rfl) (by kernel_rfl) (fun _ _ _ h => h) (Or.inl ⟨by rfl, ?_⟩) (by assumption) ?_
        rotate_left
        · intro w hSw
          go_simp
          try with_reducible rfl
        simp only [Act.put, List.getElem_toArray, List.getElem_cons_zero, List.getElem_cons_succ, List.setIfInBounds_toArray, List.set_cons_zero, List.set_cons_succ]
        refine wpAnyH_done (by kernel_rfl) ?_ _
        clear hHeld
        replace KR1 := aside (blk_on KR1.out HBX.out.drew)
        have r0 := cell_one KR1.out
        have rz := frozen_one KR1.out
        gi_wp2
        exact ⟨(kf_below (Below.refl _ X).drew).trans ((KeepsOthers.setCell _ _ _).from _), .inl ⟨rfl, HWR.out⟩⟩
    case done =>
      rintro D xs X hD hxs ⟨-, hnx, hbx⟩ hK
      have hln : xs.length = n := by rw [hxs, HPR.out]; exact HLN.out
      rw [hln] at hnx
      have HNX := aside hnx
      have HBX := aside hbx
      replace hD := Nat.le_trans HVV.out hD
      clear hnx hbx hxs hln
      have w0 := cell_one (blk_on KW1.out HBX.out)
      have n0 := cell_one HNX.out
      have t0 := cell_one (blk_on KT1.out HBX.out)
      have s0 := cell_one (blk_on KS1.out HBX.out)
      have NXT := aside (LpB.next HL.out HTM.out HBX.out hD hK)
      clear hD hK
      gi_wp2
      all_goals
        refine ⟨⟨D :: Ds, _, _, _, _, _, _, _, _, _, _, _, _, _, _, _, _, _, _, _, _, _, _, _, _, _, _, _, _, _, _, _, _, _, _, _, _, _, _, _, _, _, _, _, _, _, _, _, _, _, _, _, _, _, _, _, _, _, _, _, _, _, _, _, _, _, _, _, _, _, _, _, _, _, _, _, _, _, _, _, _, _, _, _, _, _, _, _, _, _, _, _, _, _, rfl, by rw [List.length_cons, HTM.out]; omega, NXT.out⟩, ?_⟩
        rw [List.length_cons, List.length_map, HTM.out]
        omega
    case stop =>
      rintro D c pre X hD ⟨r, hr⟩ hix hK
      rcases hix with ⟨rfl, hne⟩ | ⟨rfl, hd0, hz, hnx, hbx⟩
      · exact absurd ⟨r, hr.trans HPR.out⟩ hne
      · have HNX := aside hnx
        have HBX := aside hbx
        replace hD := Nat.le_trans HVV.out hD
        obtain ⟨k, hk⟩ : ∃ k, pre.length = k := ⟨_, rfl⟩
        rw [hk] at HNX hz
        have e1 : ((tm : Int) == 0) = true := by simp [hd0]
        have e2 : ((k : Int) == z) = true := by simpa using hz
        clear hnx hbx hr hz hk hd0
        by_cases hkn : (k : Int) = (n : Int)
        · have e3 : ((k : Int) == (n : Int)) = true := by simpa using hkn
          have w0 := cell_one (blk_on KW1.out HBX.out)
          have n0 := cell_one HNX.out
          have t0 := cell_one (blk_on KT1.out HBX.out)
          have s0 := cell_one (blk_on KS1.out HBX.out)
          have NXT := aside (LpB.next HL.out HTM.out HBX.out hD hK)
          clear hD hK hkn
          gi_wp2
          all_goals
            refine ⟨⟨D :: Ds, _, _, _, _, _, _, _, _, _, _, _, _, _, _, _, _, _, _, _, _, _, _, _, _, _, _, _, _, _, _, _, _, _, _, _, _, _, _, _, _, _, _, _, _, _, _, _, _, _, _, _, _, _, _, _, _, _, _, _, _, _, _, _, _, _, _, _, _, _, _, _, _, _, _, _, _, _, _, _, _, _, _, _, _, _, _, _, _, _, _, _, _, _, rfl, by rw [List.length_cons, HTM.out]; omega, NXT.out⟩, ?_⟩
            rw [List.length_cons, List.length_map, HTM.out]
            omega
        · have e3 : ((k : Int) == (n : Int)) = false := by simpa using hkn
          have w0 := cell_one (blk_on KW1.out HBX.out)
          have n0 := cell_one HNX.out
          have t0 := cell_one (blk_on KT1.out HBX.out)
          have s0 := cell_one (blk_on KS1.out HBX.out)
          have NXT := aside (LpB.next HL.out HTM.out HBX.out hD hK)
          clear hD hK hkn
          gi_wp2
          all_goals
            refine ⟨⟨D :: Ds, _, _, _, _, _, _, _, _, _, _, _, _, _, _, _, _, _, _, _, _, _, _, _, _, _, _, _, _, _, _, _, _, _, _, _, _, _, _, _, _, _, _, _, _, _, _, _, _, _, _, _, _, _, _, _, _, _, _, _, _, _, _, _, _, _, _, _, _, _, _, _, _, _, _, _, _, _, _, _, _, _, _, _, _, _, _, _, _, _, _, _, _, _, rfl, by rw [List.length_cons, HTM.out]; omega, NXT.out⟩, ?_⟩
            rw [List.length_cons, List.length_map, HTM.out]
            omega
  · have hD2 : Ds.length = 2 := by rw [HTM.out]; omega
    clear HTM
    obtain ⟨D2, D1, rfl⟩ : ∃ D2 D1, Ds = [D2, D1] := by
      match Ds, hD2 with
      | [D2, D1], _ => exact ⟨D2, D1, rfl⟩
    have c6 := cell_one KR1.out
    have z6 := frozen_one KR1.out
    have TS := aside (show (V1.setCell ⟨sb + 1, 0, none⟩ (.bool true)).heap[sb + 1]? = some (.cells #[.bool true] 4 (0, 0)) from by rw [heap_setCell_same V1 (sb + 1) 0 _ _ (.bool true) KR1.out]; rfl)
    have TB := aside ((BW.out.trans (BV.out.mono BW.out.size)).setCell (p := ⟨sb + 1, 0, none⟩) (by show w.heap.size ≤ sb + 1; have := N0.out; omega) (.bool true))
    have HD := aside (HL.out.two)
    clear hD2
    gi_wp2
    have g2 := (KeepsOthers.setCell V1 ⟨sb + 1, 0, none⟩ (.bool true)).same D2 _ HD.out.1 rfl
    have g1 := (KeepsOthers.setCell V1 ⟨sb + 1, 0, none⟩ (.bool true)).same D1 _ HD.out.2.1 rfl
    have g1' : ((V1.setCell ⟨sb + 1, 0, none⟩ (.bool true)).putObj D2 (.deferred none)).heap[D1]? = some (.deferred (some [])) := (World.putObj_heap_other HD.out.2.2.1).trans g1
    refine ⟨by simp, .inl ⟨_, _, rfl, run_takeDeferred g2, by simp, .inl ⟨_, _, rfl, run_takeDeferred g1', ?_⟩⟩⟩
    have gr2 := grownBy_putObj' (V1.setCell ⟨sb + 1, 0, none⟩ (.bool true)) D2 (.deferred none)
    have gr1 := grownBy_putObj' ((V1.setCell ⟨sb + 1, 0, none⟩ (.bool true)).putObj D2 (.deferred none)) D1 (.deferred none)
    have d0 := cell_kept (cell_kept (cell_one TS.out) gr2 (fun r e => by cases e; exact ⟨_, g2, rfl⟩)) gr1 (fun r e => by cases e; exact ⟨_, g1', rfl⟩)
    have hle := BW.out.size
    refine ⟨.bool true, by simp [results, Try.f6, go_sem, d0], rfl, ?_⟩
    exact (TB.out.grown gr2 TB.out.size (fun k e => by cases e; have := HD.out.2.2.2; omega)).grown gr1 (by have := TB.out.size; have := gr2.size; omega) (fun k e => by cases e; have := HD.out.2.2.2; omega)

end Go.Proofs.Ytgailbfoicoaiaa

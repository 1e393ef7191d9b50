/-
  Put (E).
-/
import Derived.Test.YtlbkcndmljlnmaaDoorBx13
namespace Go.Proofs.YtlbkcndmljlnmaaDoor
open Go.RowKit Go.Shelf
set_option linter.unusedVariables false
attribute [local go_sem] Oper.semAt_some
set_option maxRecDepth 200000 in
set_option maxHeartbeats 8000000 in
theorem putAE {jv : Value} {c : Option Nat} (HB : BothOkE jv c) (nn : Nat) (hnn : 3 ≤ nn) (k : ByteArray) (v : En) (s : Tl) {w : World} {tb n : Nat} {p0 : Option Addr} {T : Tr En Tl} (ht : TObjE w tb jv p0) (hc : CntE c n w) (hT : IsTE w p0 T) (hh : T.ht ≤ 1000000) (hcn : T.cnt ≤ 4611686018427387904) (hw : (T.ht + 2) * (T.wt tSz + 1 + tSz s) ≤ 4611686018427387904) (hF : Tr.found k T = .nil) :
    CallsIn Fence.wide nn Tryd.prog 60 #[.pointer (some ⟨tb, 0, none⟩), .string k, .agg #[.string v.k, .int .i64 v.c, .int .i64 v.n, .string v.v, .bool v.d], .agg #[.int .i64 s.n, .int .u64 s.a, .int .u64 s.b]] w fun e w' => e = .returned (.tuple #[.agg #[.string ((Tr.found k T).val eNone).k, .int .i64 ((Tr.found k T).val eNone).c, .int .i64 ((Tr.found k T).val eNone).n, .string ((Tr.found k T).val eNone).v, .bool ((Tr.found k T).val eNone).d], .bool (!(Tr.found k T).isNil)]) ∧ (∃ p, TObjE w' tb jv p ∧ IsTE w' p (Tr.put k v s T)) ∧ CntE c (n + Tr.putC k v s T) w' ∧ Keeps (fun x => x = tb ∨ OnC c x) w w' := by
  have h1 : 1 ≤ nn := by omega
  have H0 := aside (pstE k v s ht hc)
  have HC := aside hc
  have CD := aside (downE k H0.out.tobj (hT.on ((((((Stay.refl _ _).alloc _).alloc _).alloc _).alloc _).alloc _)) hh hcn)
  have HHT := aside hh
  have HW := aside hw
  have HF := aside hF
  clear ht hc hT hh hcn hw hF
  refine callsIn_of_wp_marks Tryd.func60 rfl trivial ?_ rfl
  simp only [Tryd.ntmps60, List.size_toArray, List.length_cons, List.length_nil, Nat.reduceAdd, Nat.reduceSub, Array.replicate_succ, Array.replicate_zero, List.push_toArray, List.append_toArray, List.nil_append, List.cons_append]
  gi_wp2
  refine ⟨trivial, ?_⟩
  refine (callsIn_wide.2 CD.out).mono ?_
  rintro e w1 ⟨pre, p, bb, cap, rfl, d1, d2, d3, d4, d5⟩
  rw [HF.out] at d1
  have hUs : w.heap.size + 5 ≤ w1.heap.size := by have := d3.size; simp at this; omega
  have H1 := aside ((H0.out.below HC.out d3).was HC.out hUs)
  have HR := aside (putRowsE d2 d4 d5)
  have WA := aside (bnew w1 (.cells #[.string ⟨#[]⟩, .int .i64 0, .int .i64 0, .string ⟨#[]⟩, .bool false] 44))
  clear hUs
  have US := aside (show w.heap.size ≤ ((((((w.alloc (.cells #[.pointer (some ⟨tb, 0, none⟩)] 103)).alloc (.cells #[.string k] 9)).alloc (.cells #[.string v.k, .int .i64 v.c, .int .i64 v.n, .string v.v, .bool v.d] 44)).alloc (.cells #[.int .i64 s.n, .int .u64 s.a, .int .u64 s.b] 97)).alloc (.cells #[.string ⟨#[]⟩, .int .i64 0, .int .i64 0, .string ⟨#[]⟩, .bool false] 44))).heap.size from by simp; omega)
  obtain rfl : p = none := d1
  clear d2 d3 d4 d5 CD H0
  generalize ((((w.alloc (.cells #[.pointer (some ⟨tb, 0, none⟩)] 103)).alloc (.cells #[.string k] 9)).alloc (.cells #[.string v.k, .int .i64 v.c, .int .i64 v.n, .string v.v, .bool v.d] 44)).alloc (.cells #[.int .i64 s.n, .int .u64 s.a, .int .u64 s.b] 97)).alloc (.cells #[.string ⟨#[]⟩, .int .i64 0, .int .i64 0, .string ⟨#[]⟩, .bool false] 44) = U at *
  have c0 := cell_one H1.out.bt
  have c1 := cell_one H1.out.bk
  obtain ⟨v0, v1, v2, v3, v4, -, -, -, -, -⟩ := penta H1.out.bv
  obtain ⟨q0, q1, q2, -, -, -⟩ := tri H1.out.bs
  gi_wp2_with fail
  refine ⟨trivial, ?_⟩
  refine (callsIn_wide.2 (hangE HB (l := (.nil : Tr En Tl)) (r := (.nil : Tr En Tl)) k v s H1.out.tobj H1.out.cnt rfl rfl (putFitAE HF.out HW.out))).mono ?_
  rintro e w2 ⟨p1, rfl, i1, bc, kk⟩
  have WSZ := aside (show w1.heap.size ≤ (w1.alloc (.cells #[.string ⟨#[]⟩, .int .i64 0, .int .i64 0, .string ⟨#[]⟩, .bool false] 44)).heap.size from by simp)
  have WCL := aside (fun (p : Addr) (y : Value) (h : w1.cell? p = some y) (hne : p.block < w1.heap.size) => (WA.out.cell (p := p) hne).trans h)
  have H2 := aside (H1.out.on HC.out kk bc)
  have I1 := aside i1
  obtain ⟨es, e1, e2, e3, e4, e5, e6⟩ := HR.out
  have HL := aside (show pre.length ≤ 1000000 from by have h2 := Tr.path_le k T; rw [← e3, List.length_map, e1] at h2; have := HHT.out; omega)
  have W1 := aside (show w1.heap.size ≤ w2.heap.size from by have := kk.size; have := WSZ.out; omega)
  have E4 := aside (fun j h => (kk.cell (p := ⟨bb, j, none⟩) (by have := e5; have := WSZ.out; dsimp only; omega) (HC.out.lt (by dsimp only; have := US.out; omega))).trans (WCL.out _ _ (e4 j h) (by dsimp only; omega)))
  have E1 := aside e1
  have E2 := aside e2
  have E3 := aside e3
  have E5 := aside e5
  have E6 := aside e6
  clear i1 bc kk e1 e2 e3 e4 e5 e6 HR H1 c0 c1 v0 v1 v2 v3 v4 q0 q1 q2 WSZ WCL WA
  gi_wp2_with fail
  refine ⟨trivial, ?_⟩
  refine (bkE (nn - 1) _ _ _ _).mono ?_
  rintro e w3 ⟨rfl, rfl⟩
  gi_wp2_with fail
  have HP := aside (putMidE (T := T) H2.out I1.out HC.out US.out E4.out E5.out E6.out W1.out (len := pre.length) (cap := cap))
  generalize hW0 : (w2.alloc (.cells #[.pointer p1] 139)).alloc (.cells #[.slice (some ⟨bb, 0, none⟩) pre.length cap] 138) = W0 at *
  obtain ⟨P1, P2, P3, P4, P5, P6, P7, P8⟩ := HP.out
  clear hW0 HP H2 I1 E4
  refine wpIn_rangeFunc_ownG rfl h1 (gf := 104) (lb := #[.pointer (some ⟨w2.heap.size + 1, 0, none⟩)]) rfl trivial (enters_of Tryd.func104 (by kernel_rfl) rfl)
    (bkStopsE es c (nn - 1) (by omega) (w2.heap.size + 1) w2.heap.size W0.heap.size bb pre.length cap W0 E1.out HL.out P4 P5 (Nat.le_refl _) P6 P7 (by omega) (by have := E5.out; have := W1.out; omega) (cell_one P2) E2.out P3)
    KpC.t (KpC.b (Nat.le_refl _)) (Below.refl _ _) (fun _ => rfl)
    (PIE w U W0 tb (n + Tr.hangC (.nil : Tr En Tl) (.nil : Tr En Tl)) w2.heap.size (T.wt tSz) jv p0 c k v s true w1.heap.size eNone (Tr.node .nil k v s .nil))
    (fun _ _ _ => False) (PIE.own P8) (fun _ s A B row h => h.elim) P1 ?a1 ?assign ?body ?done ?stop
  case assign =>
    intro l x W K hK
    dsimp only [encsE]
    gi_wp2
    exact hK
  case stop =>
    rintro D cc pre' W hD _ h
    exact h.elim
  case done =>
    rintro D ys W hD rfl hI hK
    obtain ⟨st, ⟨q, hm, hq⟩, kp⟩ := hI
    have c0 := cell_one st.bt
    have c1 := cell_one hm
    obtain ⟨-, -, -, -, r0, z0⟩ := tobjE st.tobj
    have hK' := putDefE (q := q) (e := eNone) st hK rfl
    have HE := aside (putEndE (o' := .deferred none) st HC.out hq hK rfl (by omega))
    have HL := aside (putLastE (q := q) st)
    obtain ⟨u0, u1, u2, u3, u4, -, -, -, -, -⟩ := penta HL.out.1
    obtain ⟨y0, y1, y2, y3, y4, x0, x1, x2, x3, x4⟩ := penta HL.out.2
    have hu : Tr.ups k (Tr.node .nil k v s .nil) (es.reverse.map (·.t)) = Tr.put k v s T := by
      have hp := Tr.put_ups k v s T
      rw [HF.out] at hp
      rw [List.map_reverse, E3.out]
      exact hp
    have hcs : (n + Tr.hangC (.nil : Tr En Tl) (.nil : Tr En Tl)) + Tr.upsC k (Tr.node .nil k v s .nil) (es.reverse.map (·.t)) = n + Tr.putC k v s T := by
      unfold Tr.putC
      rw [HF.out, List.map_reverse, E3.out, Nat.add_assoc]
      rfl
    rw [hu, hcs] at HE
    clear hm hq kp st hu hcs
    gi_wp2
    refine ⟨by simp, .inl ⟨_, _, rfl, run_takeDeferred hK', ?_⟩⟩
    obtain ⟨g0, g1, g2, g3, g4, -, -, -, -, -⟩ := penta HE.out.2.2.2
    unfold setE at g0 g1 g2 g3 g4 HE
    refine ⟨.tuple #[.agg #[.string eNone.k, .int .i64 eNone.c, .int .i64 eNone.n, .string eNone.v, .bool eNone.d], .bool false], by simp [results, Tryd.f60, go_sem, g0, g1, g2, g3, g4], by rw [HF.out]; rfl, HE.out.1, HE.out.2.1, HE.out.2.2.1⟩
  case body =>
    rintro l pre' x W hI hlt
    have HI := aside hI
    have HM := aside (putRoomE E1.out E3.out hlt (putBaseAE (v := v) HF.out) HW.out)
    obtain ⟨st, ⟨q, hm, hq⟩, kp⟩ := hI
    obtain ⟨xb, lp, rp, xe, hxb, hxl, hxr⟩ := x.ok
    injection xe with xe
    injection xe with xe
    have HX := aside (show U.heap[x.b]? = some _ from xe ▸ hxb)
    have XL := aside (hxl.on st.stay)
    have XR := aside (hxr.on st.stay)
    have HQ := aside hq
    have HS := aside st
    have HMd := aside hm
    have XW := aside (show (Tr.node x.l x.k x.v x.s x.r).wt tSz ≤ T.wt tSz from x.le)
    clear st hm hq kp hxb hxl hxr xe hlt
    have kc := cell_one HS.out.bk
    gi_wp2_with fail
    refine wpIn_region_held (S := fun X => X.cell? ⟨w.heap.size + 1, 0, none⟩ = some (.string k) ∧ X.cell? ⟨x.b, 0, none⟩ = some (.string x.k)) (by kernel_rfl) (by kernel_rfl) (fun ⟨_, _, h⟩ => h) ⟨cell_one HS.out.drew.bk, (nodeE (HS.out.drew.stay _ _ HX.out)).1⟩ (fun hHeld => ?_)
    refine wpAnyH_take (i := 0) (v := ?_) rfl (by kernel_rfl) (by kernel_rfl) (by kernel_rfl) (fun _ _ _ h => h) (Or.inl ⟨by rfl, ?_⟩) (by assumption) ?_
    rotate_left
    · intro w hSw
      go_simp
      try with_reducible rfl
    simp only [Act.put, List.getElem_toArray, List.getElem_cons_zero, List.setIfInBounds_toArray, List.set_cons_zero, List.set_cons_succ]
    refine wpAnyH_take (i := 1) (v := ?_) rfl (by kernel_rfl) (by kernel_rfl) (by kernel_rfl) (fun _ _ _ h => h) (Or.inl ⟨by rfl, ?_⟩) (by assumption) ?_
    rotate_left
    · intro w hSw
      go_simp
      try with_reducible rfl
    simp only [Act.put, List.getElem_toArray, List.getElem_cons_zero, List.getElem_cons_succ, List.setIfInBounds_toArray, List.set_cons_zero, List.set_cons_succ]
    refine wpAnyH_take (i := 2) (v := ?_) rfl (by kernel_rfl) (by kernel_rfl) (by kernel_rfl) (fun _ _ _ h => h) (Or.inl ⟨by rfl, ?_⟩) (by assumption) ?_
    rotate_left
    · intro w hSw
      go_simp
      try with_reducible rfl
    simp only [Act.put, List.getElem_toArray, List.getElem_cons_zero, List.getElem_cons_succ, List.setIfInBounds_toArray, List.set_cons_zero, List.set_cons_succ]
    refine wpAnyH_take (i := 3) (v := ?_) rfl (by kernel_rfl) (by kernel_rfl) (by kernel_rfl) (fun _ _ _ h => h) (Or.inl ⟨by rfl, ?_⟩) (by assumption) ?_
    rotate_left
    · intro w hSw
      go_simp
      try with_reducible rfl
    simp only [Act.put, List.getElem_toArray, List.getElem_cons_zero, List.getElem_cons_succ, List.setIfInBounds_toArray, List.set_cons_zero, List.set_cons_succ]
    refine wpAnyH_take (i := 4) (v := ?_) rfl (by kernel_rfl) (by kernel_rfl) (by kernel_rfl) (fun _ _ _ h => h) (Or.inl ⟨by rfl, ?_⟩) (by assumption) ?_
    rotate_left
    · intro w hSw
      go_simp
      try with_reducible rfl
    simp only [Act.put, List.getElem_toArray, List.getElem_cons_zero, List.getElem_cons_succ, List.setIfInBounds_toArray, List.set_cons_zero, List.set_cons_succ]
    refine wpAnyH_take (i := 5) (v := ?_) rfl (by kernel_rfl) (by kernel_rfl) (by kernel_rfl) (fun _ _ _ h => h) (Or.inl ⟨by rfl, ?_⟩) (by assumption) ?_
    rotate_left
    · intro w hSw
      go_simp
      try with_reducible rfl
    simp only [Act.put, List.getElem_toArray, List.getElem_cons_zero, List.getElem_cons_succ, List.setIfInBounds_toArray, List.set_cons_zero, List.set_cons_succ]
    refine wpAnyH_take (i := 6) (v := ?_) rfl (by kernel_rfl) (by kernel_rfl) (by kernel_rfl) (fun _ _ _ h => h) (Or.inl ⟨by rfl, ?_⟩) (by assumption) ?_
    rotate_left
    · intro w hSw
      go_simp
      try with_reducible rfl
    simp only [Act.put, List.getElem_toArray, List.getElem_cons_zero, List.getElem_cons_succ, List.setIfInBounds_toArray, List.set_cons_zero, List.set_cons_succ]
    refine wpAnyH_done (by kernel_rfl) ?_ _
    clear hHeld kc
    cases hq1 : Op.bytesLess k.toList x.k.toList
    · have HQ1 := aside (show kLt k x.k = false from hq1)
      gi_wp2_with fail
      refine wpIn_region_held (S := fun X => X.cell? ⟨w.heap.size, 0, none⟩ = some (.pointer (some ⟨tb, 0, none⟩)) ∧ X.cell? ⟨x.b, 0, none⟩ = some (.string x.k) ∧ X.cell? ⟨x.b, 1, none⟩ = some (.string x.v.k) ∧ X.cell? ⟨x.b, 2, none⟩ = some (.int .i64 x.v.c) ∧ X.cell? ⟨x.b, 3, none⟩ = some (.int .i64 x.v.n) ∧ X.cell? ⟨x.b, 4, none⟩ = some (.string x.v.v) ∧ X.cell? ⟨x.b, 5, none⟩ = some (.bool x.v.d) ∧ X.cell? ⟨x.b, 6, none⟩ = some (.int .i64 x.s.n) ∧ X.cell? ⟨x.b, 7, none⟩ = some (.int .u64 x.s.a) ∧ X.cell? ⟨x.b, 8, none⟩ = some (.int .u64 x.s.b) ∧ X.cell? ⟨x.b, 9, none⟩ = some (.pointer lp)) (by kernel_rfl) (by kernel_rfl) (fun ⟨_, _, h⟩ => h) (putHeldlE HS.out.drew.drew HX.out) (fun hHeld => ?_)
      refine wpAnyH_take (i := 0) (v := ?_) rfl (by kernel_rfl) (by kernel_rfl) (by kernel_rfl) (fun _ _ _ h => h) (Or.inl ⟨by rfl, ?_⟩) (by assumption) ?_
      rotate_left
      · intro w hSw
        go_simp
        try with_reducible rfl
      simp only [Act.put, List.getElem_toArray, List.getElem_cons_zero, List.setIfInBounds_toArray, List.set_cons_zero, List.set_cons_succ]
      refine wpAnyH_take (i := 1) (v := ?_) rfl (by kernel_rfl) (by kernel_rfl) (by kernel_rfl) (fun _ _ _ h => h) (Or.inl ⟨by rfl, ?_⟩) (by assumption) ?_
      rotate_left
      · intro w hSw
        go_simp
        try with_reducible rfl
      simp only [Act.put, List.getElem_toArray, List.getElem_cons_zero, List.getElem_cons_succ, List.setIfInBounds_toArray, List.set_cons_zero, List.set_cons_succ]
      refine wpAnyH_take (i := 2) (v := ?_) rfl (by kernel_rfl) (by kernel_rfl) (by kernel_rfl) (fun _ _ _ h => h) (Or.inl ⟨by rfl, ?_⟩) (by assumption) ?_
      rotate_left
      · intro w hSw
        go_simp
        try with_reducible rfl
      simp only [Act.put, List.getElem_toArray, List.getElem_cons_zero, List.getElem_cons_succ, List.setIfInBounds_toArray, List.set_cons_zero, List.set_cons_succ]
      refine wpAnyH_take (i := 3) (v := ?_) rfl (by kernel_rfl) (by kernel_rfl) (by kernel_rfl) (fun _ _ _ h => h) (Or.inl ⟨by rfl, ?_⟩) (by assumption) ?_
      rotate_left
      · intro w hSw
        go_simp
        try with_reducible rfl
      simp only [Act.put, List.getElem_toArray, List.getElem_cons_zero, List.getElem_cons_succ, List.setIfInBounds_toArray, List.set_cons_zero, List.set_cons_succ]
      refine wpAnyH_take (i := 4) (v := ?_) rfl (by kernel_rfl) (by kernel_rfl) (by kernel_rfl) (fun _ _ _ h => h) (Or.inl ⟨by rfl, ?_⟩) (by assumption) ?_
      rotate_left
      · intro w hSw
        go_simp
        try with_reducible rfl
      simp only [Act.put, List.getElem_toArray, List.getElem_cons_zero, List.getElem_cons_succ, List.setIfInBounds_toArray, List.set_cons_zero, List.set_cons_succ]
      refine wpAnyH_take (i := 5) (v := ?_) rfl (by kernel_rfl) (by kernel_rfl) (by kernel_rfl) (fun _ _ _ h => h) (Or.inl ⟨by rfl, ?_⟩) (by assumption) ?_
      rotate_left
      · intro w hSw
        go_simp
        try with_reducible rfl
      simp only [Act.put, List.getElem_toArray, List.getElem_cons_zero, List.getElem_cons_succ, List.setIfInBounds_toArray, List.set_cons_zero, List.set_cons_succ]
      refine wpAnyH_take (i := 6) (v := ?_) rfl (by kernel_rfl) (by kernel_rfl) (by kernel_rfl) (fun _ _ _ h => h) (Or.inl ⟨by rfl, ?_⟩) (by assumption) ?_
      rotate_left
      · intro w hSw
        go_simp
        try with_reducible rfl
      simp only [Act.put, List.getElem_toArray, List.getElem_cons_zero, List.getElem_cons_succ, List.setIfInBounds_toArray, List.set_cons_zero, List.set_cons_succ]
      refine wpAnyH_take (i := 7) (v := ?_) rfl (by kernel_rfl) (by kernel_rfl) (by kernel_rfl) (fun _ _ _ h => h) (Or.inl ⟨by rfl, ?_⟩) (by assumption) ?_
      rotate_left
      · intro w hSw
        go_simp
        try with_reducible rfl
      simp only [Act.put, List.getElem_toArray, List.getElem_cons_zero, List.getElem_cons_succ, List.setIfInBounds_toArray, List.set_cons_zero, List.set_cons_succ]
      refine wpAnyH_take (i := 8) (v := ?_) rfl (by kernel_rfl) (by kernel_rfl) (by kernel_rfl) (fun _ _ _ h => h) (Or.inl ⟨by rfl, ?_⟩) (by assumption) ?_
      rotate_left
      · intro w hSw
        go_simp
        try with_reducible rfl
      simp only [Act.put, List.getElem_toArray, List.getElem_cons_zero, List.getElem_cons_succ, List.setIfInBounds_toArray, List.set_cons_zero, List.set_cons_succ]
      have m0 := cell_one (show (World.drew (World.drew W)).heap[w2.heap.size]? = some _ from HMd.out)
      refine wpAnyH_ready (rs := [9]) (by kernel_rfl) (by simp) ?_
      refine AllReadyH.cons rfl (fun K hK => ?_) AllReadyH.nil
      go_simp
      refine hK.out _ _ (hHeld) (fun hHeld => ?_)
      clear hK K 
      clear m0
      refine wpAnyH_ready (rs := [10]) (by kernel_rfl) (by simp) ?_
      refine AllReadyH.cons rfl (fun K hK => ?_) AllReadyH.nil
      go_simp
      refine (levelE HB x.k x.v x.s HS.out.drew.drew.tobj HS.out.drew.drew.cnt (XL.out.on (Stay.refl _ _).drew.drew) (HQ.out.on (Stay.refl _ _).drew.drew) (by have h8 := XW.out; have h9 := HM.out; simp only [Tr.wt] at h8 ⊢; omega)).mono ?_
      rintro e w9 ⟨p9, rfl, ii, bc, kk⟩
      refine hK.out _ _ (putHeldlE (HS.out.drew.drew.on HC.out kk bc) HX.out) (fun hHeld => ?_)
      clear hK K 
      have K9 := aside (show Keeps (OnC c) W w9 from ⟨kk.os, kk.tape, kk.output, kk.size, kk.block⟩)
      have m9 := blk_keep HMd.out K9.out (HC.out.lt (by have := US.out; have := W1.out; have := E5.out; have := E6.out; omega))
      have m0 := cell_one m9
      have z0 := frozen_one m9
      have FIN := aside (putStepE (x := x) HI.out HC.out (by have := US.out; have := W1.out; have := E5.out; have := E6.out; omega) K9.out (by have h9 := bc; rw [show Tr.stepC k x.t (Tr.ups k (Tr.node .nil k v s .nil) (pre'.map (·.t))) = Tr.levelC x.l (Tr.ups k (Tr.node .nil k v s .nil) (pre'.map (·.t))) from by simp only [Tr.stepC, BEE.t, HQ1.out, if_false, Bool.false_eq_true]]; exact h9) (by have h9 := ii; rw [show Tr.step k x.t (Tr.ups k (Tr.node .nil k v s .nil) (pre'.map (·.t))) = Tr.level x.k x.v x.s x.l (Tr.ups k (Tr.node .nil k v s .nil) (pre'.map (·.t))) from by simp only [Tr.step, BEE.t, HQ1.out, if_false, Bool.false_eq_true]]; exact h9))
      clear ii bc kk
      refine wpAnyH_ready (rs := [11]) (by kernel_rfl) (by simp) ?_
      refine AllReadyH.cons rfl (fun K hK => ?_) AllReadyH.nil
      go_simp
      refine hK.out _ _ (putSetlE hHeld HX.out HS.out K9.out HC.out m9) (fun hHeld => ?_)
      clear hK K 
      refine wpAnyH_done (by kernel_rfl) ?_ _
      clear hHeld m0 z0
      gi_wp2
      exact FIN.out
    · have HQ1 := aside (show kLt k x.k = true from hq1)
      gi_wp2_with fail
      refine wpIn_region_held (S := fun X => X.cell? ⟨w.heap.size, 0, none⟩ = some (.pointer (some ⟨tb, 0, none⟩)) ∧ X.cell? ⟨x.b, 0, none⟩ = some (.string x.k) ∧ X.cell? ⟨x.b, 1, none⟩ = some (.string x.v.k) ∧ X.cell? ⟨x.b, 2, none⟩ = some (.int .i64 x.v.c) ∧ X.cell? ⟨x.b, 3, none⟩ = some (.int .i64 x.v.n) ∧ X.cell? ⟨x.b, 4, none⟩ = some (.string x.v.v) ∧ X.cell? ⟨x.b, 5, none⟩ = some (.bool x.v.d) ∧ X.cell? ⟨x.b, 6, none⟩ = some (.int .i64 x.s.n) ∧ X.cell? ⟨x.b, 7, none⟩ = some (.int .u64 x.s.a) ∧ X.cell? ⟨x.b, 8, none⟩ = some (.int .u64 x.s.b) ∧ X.cell? ⟨x.b, 10, none⟩ = some (.pointer rp)) (by kernel_rfl) (by kernel_rfl) (fun ⟨_, _, h⟩ => h) (putHeldrE HS.out.drew.drew HX.out) (fun hHeld => ?_)
      refine wpAnyH_take (i := 0) (v := ?_) rfl (by kernel_rfl) (by kernel_rfl) (by kernel_rfl) (fun _ _ _ h => h) (Or.inl ⟨by rfl, ?_⟩) (by assumption) ?_
      rotate_left
      · intro w hSw
        go_simp
        try with_reducible rfl
      simp only [Act.put, List.getElem_toArray, List.getElem_cons_zero, List.setIfInBounds_toArray, List.set_cons_zero, List.set_cons_succ]
      refine wpAnyH_take (i := 1) (v := ?_) rfl (by kernel_rfl) (by kernel_rfl) (by kernel_rfl) (fun _ _ _ h => h) (Or.inl ⟨by rfl, ?_⟩) (by assumption) ?_
      rotate_left
      · intro w hSw
        go_simp
        try with_reducible rfl
      simp only [Act.put, List.getElem_toArray, List.getElem_cons_zero, List.getElem_cons_succ, List.setIfInBounds_toArray, List.set_cons_zero, List.set_cons_succ]
      refine wpAnyH_take (i := 2) (v := ?_) rfl (by kernel_rfl) (by kernel_rfl) (by kernel_rfl) (fun _ _ _ h => h) (Or.inl ⟨by rfl, ?_⟩) (by assumption) ?_
      rotate_left
      · intro w hSw
        go_simp
        try with_reducible rfl
      simp only [Act.put, List.getElem_toArray, List.getElem_cons_zero, List.getElem_cons_succ, List.setIfInBounds_toArray, List.set_cons_zero, List.set_cons_succ]
      refine wpAnyH_take (i := 3) (v := ?_) rfl (by kernel_rfl) (by kernel_rfl) (by kernel_rfl) (fun _ _ _ h => h) (Or.inl ⟨by rfl, ?_⟩) (by assumption) ?_
      rotate_left
      · intro w hSw
        go_simp
        try with_reducible rfl
      simp only [Act.put, List.getElem_toArray, List.getElem_cons_zero, List.getElem_cons_succ, List.setIfInBounds_toArray, List.set_cons_zero, List.set_cons_succ]
      refine wpAnyH_take (i := 4) (v := ?_) rfl (by kernel_rfl) (by kernel_rfl) (by kernel_rfl) (fun _ _ _ h => h) (Or.inl ⟨by rfl, ?_⟩) (by assumption) ?_
      rotate_left
      · intro w hSw
        go_simp
        try with_reducible rfl
      simp only [Act.put, List.getElem_toArray, List.getElem_cons_zero, List.getElem_cons_succ, List.setIfInBounds_toArray, List.set_cons_zero, List.set_cons_succ]
      refine wpAnyH_take (i := 6) (v := ?_) rfl (by kernel_rfl) (by kernel_rfl) (by kernel_rfl) (fun _ _ _ h => h) (Or.inl ⟨by rfl, ?_⟩) (by assumption) ?_
      rotate_left
      · intro w hSw
        go_simp
        try with_reducible rfl
      simp only [Act.put, List.getElem_toArray, List.getElem_cons_zero, List.getElem_cons_succ, List.setIfInBounds_toArray, List.set_cons_zero, List.set_cons_succ]
      refine wpAnyH_take (i := 7) (v := ?_) rfl (by kernel_rfl) (by kernel_rfl) (by kernel_rfl) (fun _ _ _ h => h) (Or.inl ⟨by rfl, ?_⟩) (by assumption) ?_
      rotate_left
      · intro w hSw
        go_simp
        try with_reducible rfl
      simp only [Act.put, List.getElem_toArray, List.getElem_cons_zero, List.getElem_cons_succ, List.setIfInBounds_toArray, List.set_cons_zero, List.set_cons_succ]
      refine wpAnyH_take (i := 8) (v := ?_) rfl (by kernel_rfl) (by kernel_rfl) (by kernel_rfl) (fun _ _ _ h => h) (Or.inl ⟨by rfl, ?_⟩) (by assumption) ?_
      rotate_left
      · intro w hSw
        go_simp
        try with_reducible rfl
      simp only [Act.put, List.getElem_toArray, List.getElem_cons_zero, List.getElem_cons_succ, List.setIfInBounds_toArray, List.set_cons_zero, List.set_cons_succ]
      refine wpAnyH_take (i := 9) (v := ?_) rfl (by kernel_rfl) (by kernel_rfl) (by kernel_rfl) (fun _ _ _ h => h) (Or.inl ⟨by rfl, ?_⟩) (by assumption) ?_
      rotate_left
      · intro w hSw
        go_simp
        try with_reducible rfl
      simp only [Act.put, List.getElem_toArray, List.getElem_cons_zero, List.getElem_cons_succ, List.setIfInBounds_toArray, List.set_cons_zero, List.set_cons_succ]
      have m0 := cell_one (show (World.drew (World.drew W)).heap[w2.heap.size]? = some _ from HMd.out)
      refine wpAnyH_ready (rs := [5]) (by kernel_rfl) (by simp) ?_
      refine AllReadyH.cons rfl (fun K hK => ?_) AllReadyH.nil
      go_simp
      refine hK.out _ _ (hHeld) (fun hHeld => ?_)
      clear hK K 
      clear m0
      refine wpAnyH_ready (rs := [10]) (by kernel_rfl) (by simp) ?_
      refine AllReadyH.cons rfl (fun K hK => ?_) AllReadyH.nil
      go_simp
      refine (levelE HB x.k x.v x.s HS.out.drew.drew.tobj HS.out.drew.drew.cnt (HQ.out.on (Stay.refl _ _).drew.drew) (XR.out.on (Stay.refl _ _).drew.drew) (by have h8 := XW.out; have h9 := HM.out; simp only [Tr.wt] at h8 ⊢; omega)).mono ?_
      rintro e w9 ⟨p9, rfl, ii, bc, kk⟩
      refine hK.out _ _ (putHeldrE (HS.out.drew.drew.on HC.out kk bc) HX.out) (fun hHeld => ?_)
      clear hK K 
      have K9 := aside (show Keeps (OnC c) W w9 from ⟨kk.os, kk.tape, kk.output, kk.size, kk.block⟩)
      have m9 := blk_keep HMd.out K9.out (HC.out.lt (by have := US.out; have := W1.out; have := E5.out; have := E6.out; omega))
      have m0 := cell_one m9
      have z0 := frozen_one m9
      have FIN := aside (putStepE (x := x) HI.out HC.out (by have := US.out; have := W1.out; have := E5.out; have := E6.out; omega) K9.out (by have h9 := bc; rw [show Tr.stepC k x.t (Tr.ups k (Tr.node .nil k v s .nil) (pre'.map (·.t))) = Tr.levelC (Tr.ups k (Tr.node .nil k v s .nil) (pre'.map (·.t))) x.r from by simp only [Tr.stepC, BEE.t, HQ1.out, if_true]]; exact h9) (by have h9 := ii; rw [show Tr.step k x.t (Tr.ups k (Tr.node .nil k v s .nil) (pre'.map (·.t))) = Tr.level x.k x.v x.s (Tr.ups k (Tr.node .nil k v s .nil) (pre'.map (·.t))) x.r from by simp only [Tr.step, BEE.t, HQ1.out, if_true]]; exact h9))
      clear ii bc kk
      refine wpAnyH_ready (rs := [11]) (by kernel_rfl) (by simp) ?_
      refine AllReadyH.cons rfl (fun K hK => ?_) AllReadyH.nil
      go_simp
      refine hK.out _ _ (putSetrE hHeld HX.out HS.out K9.out HC.out m9) (fun hHeld => ?_)
      clear hK K 
      refine wpAnyH_done (by kernel_rfl) ?_ _
      clear hHeld m0 z0
      gi_wp2
      exact FIN.out
end Go.Proofs.YtlbkcndmljlnmaaDoor

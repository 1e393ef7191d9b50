/-
  Put (E).
  Put (E), whole.
  Len, Get, Rank, At, New and Clone (E).
  fold (E): its contract, what it lays.
  fold (E), the first cases.
  fold (E), a case.
  fold (E), a case.
  fold (E), a case.
  fold (E), a case.
  fold (E).
  Fold (E).
-/
import Derived.Test.YtlbkcndmljlnmaaDoorBx13
import Derived.Test.YtlbkcndmljlnmaaDoorBx14
import Derived.Test.YtlbkcndmljlnmaaDoorBx11
import Derived.Test.YtlbkcndmljlnmaaDoorBx6
import Derived.Test.YtlbkcndmljlnmaaDoorBx7
namespace Go.Proofs.YtlbkcndmljlnmaaDoor
open Go.RowKit Go.Shelf
set_option linter.unusedVariables false
attribute [local go_sem] Oper.semAt_some
set_option maxRecDepth 200000 in
set_option maxHeartbeats 8000000 in
theorem putBE {jv : Value} {c : Option Nat} (HB : BothOkE jv c) (nn : Nat) (hnn : 3 ≤ nn) (k : ByteArray) (v : En) (s : Tl) {w : World} {tb n : Nat} {p0 : Option Addr} {T : Tr En Tl} (ht : TObjE w tb jv p0) (hc : CntE c n w) (hT : IsTE w p0 T) (hh : T.ht ≤ 1000000) (hcn : T.cnt ≤ 4611686018427387904) (hw : (T.ht + 2) * (T.wt tSz + 1 + tSz s) ≤ 4611686018427387904) {fl fr : Tr En Tl} {fk : ByteArray} {fv : En} {fs : Tl} (hF : Tr.found k T = .node fl fk fv fs fr) :
    CallsIn Fence.wide nn Tryd.prog 60 #[.pointer (some ⟨tb, 0, none⟩), .string k, .agg #[.string v.k, .int .i64 v.c, .int .i64 v.n, .string v.v, .bool v.d], .agg #[.int .i64 s.n, .int .u64 s.a, .int .u64 s.b]] w fun e w' => e = .returned (.tuple #[.agg #[.string ((Tr.found k T).val eNone).k, .int .i64 ((Tr.found k T).val eNone).c, .int .i64 ((Tr.found k T).val eNone).n, .string ((Tr.found k T).val eNone).v, .bool ((Tr.found k T).val eNone).d], .bool (!(Tr.found k T).isNil)]) ∧ (∃ p, TObjE w' tb jv p ∧ IsTE w' p (Tr.put k v s T)) ∧ CntE c (n + Tr.putC k v s T) w' ∧ Keeps (fun x => x = tb ∨ OnC c x) w w' := by
  have h1 : 1 ≤ nn := by omega
  have H0 := aside (pstE k v s ht hc)
  have HC := aside hc
  have CD := aside (downE k H0.out.tobj (hT.on ((((((Stay.refl _ _).alloc _).alloc _).alloc _).alloc _).alloc _)) hh hcn)
  have HHT := aside hh
  have HW := aside hw
  have HF := aside hF
  clear ht hc hT hh hcn hw hF
  refine callsIn_of_wp_marks Tryd.func60 rfl trivial ?_ rfl
  simp only [Tryd.ntmps60, List.size_toArray, List.length_cons, List.length_nil, Nat.reduceAdd, Nat.reduceSub, Array.replicate_succ, Array.replicate_zero, List.push_toArray, List.append_toArray, List.nil_append, List.cons_append]
  gi_wp2
  refine ⟨trivial, ?_⟩
  refine (callsIn_wide.2 CD.out).mono ?_
  rintro e w1 ⟨pre, p, bb, cap, rfl, d1, d2, d3, d4, d5⟩
  rw [HF.out] at d1
  have hUs : w.heap.size + 5 ≤ w1.heap.size := by have := d3.size; simp at this; omega
  have H1 := aside ((H0.out.below HC.out d3).was HC.out hUs)
  have HR := aside (putRowsE d2 d4 d5)
  have WA := aside (bnew w1 (.cells #[.string ⟨#[]⟩, .int .i64 0, .int .i64 0, .string ⟨#[]⟩, .bool false] 44))
  clear hUs
  have US := aside (show w.heap.size ≤ ((((((w.alloc (.cells #[.pointer (some ⟨tb, 0, none⟩)] 103)).alloc (.cells #[.string k] 9)).alloc (.cells #[.string v.k, .int .i64 v.c, .int .i64 v.n, .string v.v, .bool v.d] 44)).alloc (.cells #[.int .i64 s.n, .int .u64 s.a, .int .u64 s.b] 97)).alloc (.cells #[.string ⟨#[]⟩, .int .i64 0, .int .i64 0, .string ⟨#[]⟩, .bool false] 44))).heap.size from by simp; omega)
  obtain ⟨fb, flp, frp, rfl, hfb, hfl, hfr⟩ := d1
  have HFL := aside hfl
  have HFR := aside hfr
  have hn := nodeE (blk_on (blk_on hfb d3) WA.out)
  obtain ⟨-, n1, n2, n3, n4, n5, -, -, -, n9, n10, -, -, -, -, -⟩ := hn
  have NF := aside (show fb ≠ w1.heap.size from by have := lt_of_blk (blk_on hfb d3); omega)
  clear d2 d3 d4 d5 CD H0 hfb hfl hfr
  generalize ((((w.alloc (.cells #[.pointer (some ⟨tb, 0, none⟩)] 103)).alloc (.cells #[.string k] 9)).alloc (.cells #[.string v.k, .int .i64 v.c, .int .i64 v.n, .string v.v, .bool v.d] 44)).alloc (.cells #[.int .i64 s.n, .int .u64 s.a, .int .u64 s.b] 97)).alloc (.cells #[.string ⟨#[]⟩, .int .i64 0, .int .i64 0, .string ⟨#[]⟩, .bool false] 44) = U at *
  have c0 := cell_one H1.out.bt
  have c1 := cell_one H1.out.bk
  obtain ⟨v0, v1, v2, v3, v4, -, -, -, -, -⟩ := penta H1.out.bv
  obtain ⟨q0, q1, q2, -, -, -⟩ := tri H1.out.bs
  gi_wp2_with fail
  clear c0 c1 v0 v1 v2 v3 v4 q0 q1 q2
  have VS := aside (show (w1.alloc (.cells #[.string ⟨#[]⟩, .int .i64 0, .int .i64 0, .string ⟨#[]⟩, .bool false] 44)).heap.size = w1.heap.size + 1 from by simp)
  generalize w1.alloc (.cells #[.string ⟨#[]⟩, .int .i64 0, .int .i64 0, .string ⟨#[]⟩, .bool false] 44) = V1 at *
  refine wpIn_wide.2 (wp_region_noPanic ?_)
  refine wp_region_held_drew (S := fun X => X.cell? ⟨fb, 1, none⟩ = some (.string fv.k) ∧ X.cell? ⟨fb, 2, none⟩ = some (.int .i64 fv.c) ∧ X.cell? ⟨fb, 3, none⟩ = some (.int .i64 fv.n) ∧ X.cell? ⟨fb, 4, none⟩ = some (.string fv.v) ∧ X.cell? ⟨fb, 5, none⟩ = some (.bool fv.d) ∧ X.cell? ⟨fb, 9, none⟩ = some (.pointer flp) ∧ X.cell? ⟨fb, 10, none⟩ = some (.pointer frp)) (by kernel_rfl) ⟨n1, n2, n3, n4, n5, n9, n10⟩ (fun hHeld => ?_)
  refine wpAnyH_take (i := 0) (v := ?_) rfl (by kernel_rfl) (by kernel_rfl) (by kernel_rfl) (fun _ _ _ h => h) (Or.inl ⟨by rfl, ?_⟩) (by assumption) ?_
  rotate_left
  · intro w hSw
    go_simp
    try with_reducible rfl
  simp only [Act.put, List.getElem_toArray, List.getElem_cons_zero, List.setIfInBounds_toArray, List.set_cons_zero, List.set_cons_succ]
  refine wpAnyH_take (i := 1) (v := ?_) rfl (by kernel_rfl) (by kernel_rfl) (by kernel_rfl) (fun _ _ _ h => h) (Or.inl ⟨by rfl, ?_⟩) (by assumption) ?_
  rotate_left
  · intro w hSw
    go_simp
    try with_reducible rfl
  simp only [Act.put, List.getElem_toArray, List.getElem_cons_zero, List.getElem_cons_succ, List.setIfInBounds_toArray, List.set_cons_zero, List.set_cons_succ]
  refine wpAnyH_take (i := 2) (v := ?_) rfl (by kernel_rfl) (by kernel_rfl) (by kernel_rfl) (fun _ _ _ h => h) (Or.inl ⟨by rfl, ?_⟩) (by assumption) ?_
  rotate_left
  · intro w hSw
    go_simp
    try with_reducible rfl
  simp only [Act.put, List.getElem_toArray, List.getElem_cons_zero, List.getElem_cons_succ, List.setIfInBounds_toArray, List.set_cons_zero, List.set_cons_succ]
  refine wpAnyH_take (i := 3) (v := ?_) rfl (by kernel_rfl) (by kernel_rfl) (by kernel_rfl) (fun _ _ _ h => h) (Or.inl ⟨by rfl, ?_⟩) (by assumption) ?_
  rotate_left
  · intro w hSw
    go_simp
    try with_reducible rfl
  simp only [Act.put, List.getElem_toArray, List.getElem_cons_zero, List.getElem_cons_succ, List.setIfInBounds_toArray, List.set_cons_zero, List.set_cons_succ]
  refine wpAnyH_take (i := 4) (v := ?_) rfl (by kernel_rfl) (by kernel_rfl) (by kernel_rfl) (fun _ _ _ h => h) (Or.inl ⟨by rfl, ?_⟩) (by assumption) ?_
  rotate_left
  · intro w hSw
    go_simp
    try with_reducible rfl
  simp only [Act.put, List.getElem_toArray, List.getElem_cons_zero, List.getElem_cons_succ, List.setIfInBounds_toArray, List.set_cons_zero, List.set_cons_succ]
  refine wpAnyH_take (i := 5) (v := ?_) rfl (by kernel_rfl) (by kernel_rfl) (by kernel_rfl) (fun _ _ _ h => h) (Or.inl ⟨by rfl, ?_⟩) (by assumption) ?_
  rotate_left
  · intro w hSw
    go_simp
    try with_reducible rfl
  simp only [Act.put, List.getElem_toArray, List.getElem_cons_zero, List.getElem_cons_succ, List.setIfInBounds_toArray, List.set_cons_zero, List.set_cons_succ]
  refine wpAnyH_take (i := 6) (v := ?_) rfl (by kernel_rfl) (by kernel_rfl) (by kernel_rfl) (fun _ _ _ h => h) (Or.inl ⟨by rfl, ?_⟩) (by assumption) ?_
  rotate_left
  · intro w hSw
    go_simp
    try with_reducible rfl
  simp only [Act.put, List.getElem_toArray, List.getElem_cons_zero, List.getElem_cons_succ, List.setIfInBounds_toArray, List.set_cons_zero, List.set_cons_succ]
  refine wpAnyH_take (i := 7) (v := ?_) rfl (by kernel_rfl) (by kernel_rfl) (by kernel_rfl) (fun _ _ _ h => h) (Or.inl ⟨by rfl, ?_⟩) (by assumption) ?_
  rotate_left
  · intro w hSw
    go_simp
    try with_reducible rfl
  simp only [Act.put, List.getElem_toArray, List.getElem_cons_zero, List.getElem_cons_succ, List.setIfInBounds_toArray, List.set_cons_zero, List.set_cons_succ]
  refine wpAnyH_take (i := 8) (v := ?_) rfl (by kernel_rfl) (by kernel_rfl) (by kernel_rfl) (fun _ _ _ h => h) (Or.inl ⟨by rfl, ?_⟩) (by assumption) ?_
  rotate_left
  · intro w hSw
    go_simp
    try with_reducible rfl
  simp only [Act.put, List.getElem_toArray, List.getElem_cons_zero, List.getElem_cons_succ, List.setIfInBounds_toArray, List.set_cons_zero, List.set_cons_succ]
  refine wpAnyH_take (i := 9) (v := ?_) rfl (by kernel_rfl) (by kernel_rfl) (by kernel_rfl) (fun _ _ _ h => h) (Or.inl ⟨by rfl, ?_⟩) (by assumption) ?_
  rotate_left
  · intro w hSw
    go_simp
    try with_reducible rfl
  simp only [Act.put, List.getElem_toArray, List.getElem_cons_zero, List.getElem_cons_succ, List.setIfInBounds_toArray, List.set_cons_zero, List.set_cons_succ]
  refine wpAnyH_take (i := 10) (v := ?_) rfl (by kernel_rfl) (by kernel_rfl) (by kernel_rfl) (fun _ _ _ h => h) (Or.inl ⟨by rfl, ?_⟩) (by assumption) ?_
  rotate_left
  · intro w hSw
    go_simp
    try with_reducible rfl
  simp only [Act.put, List.getElem_toArray, List.getElem_cons_zero, List.getElem_cons_succ, List.setIfInBounds_toArray, List.set_cons_zero, List.set_cons_succ]
  refine wpAnyH_take (i := 11) (v := ?_) rfl (by kernel_rfl) (by kernel_rfl) (by kernel_rfl) (fun _ _ _ h => h) (Or.inl ⟨by rfl, ?_⟩) (by assumption) ?_
  rotate_left
  · intro w hSw
    go_simp
    try with_reducible rfl
  simp only [Act.put, List.getElem_toArray, List.getElem_cons_zero, List.getElem_cons_succ, List.setIfInBounds_toArray, List.set_cons_zero, List.set_cons_succ]
  refine wpAnyH_take (i := 12) (v := ?_) rfl (by kernel_rfl) (by kernel_rfl) (by kernel_rfl) (fun _ _ _ h => h) (Or.inl ⟨by rfl, ?_⟩) (by assumption) ?_
  rotate_left
  · intro w hSw
    go_simp
    try with_reducible rfl
  simp only [Act.put, List.getElem_toArray, List.getElem_cons_zero, List.getElem_cons_succ, List.setIfInBounds_toArray, List.set_cons_zero, List.set_cons_succ]
  obtain ⟨u0, u1, u2, u3, u4, x0, x1, x2, x3, x4⟩ := penta (H1.out.drew.bw rfl).2
  obtain ⟨a0, a1, a2, a3, a4, b0, b1, b2, b3, b4⟩ := penta (H1.out.bw rfl).2
  refine wpAnyH_ready (rs := [13]) (by kernel_rfl) (by simp) ?_
  refine AllReadyH.cons rfl (fun K hK => ?_) AllReadyH.nil
  go_simp
  refine hK.out _ _ ((⟨(cell_drew_own _ _).trans (setE_cell fv n1 NF.out), (cell_drew_own _ _).trans (setE_cell fv n2 NF.out), (cell_drew_own _ _).trans (setE_cell fv n3 NF.out), (cell_drew_own _ _).trans (setE_cell fv n4 NF.out), (cell_drew_own _ _).trans (setE_cell fv n5 NF.out), (cell_drew_own _ _).trans (setE_cell fv n9 NF.out), (cell_drew_own _ _).trans (setE_cell fv n10 NF.out)⟩ : (World.drew (setE V1 w1.heap.size fv)).cell? ⟨fb, 1, none⟩ = some (.string fv.k) ∧ (World.drew (setE V1 w1.heap.size fv)).cell? ⟨fb, 2, none⟩ = some (.int .i64 fv.c) ∧ (World.drew (setE V1 w1.heap.size fv)).cell? ⟨fb, 3, none⟩ = some (.int .i64 fv.n) ∧ (World.drew (setE V1 w1.heap.size fv)).cell? ⟨fb, 4, none⟩ = some (.string fv.v) ∧ (World.drew (setE V1 w1.heap.size fv)).cell? ⟨fb, 5, none⟩ = some (.bool fv.d) ∧ (World.drew (setE V1 w1.heap.size fv)).cell? ⟨fb, 9, none⟩ = some (.pointer flp) ∧ (World.drew (setE V1 w1.heap.size fv)).cell? ⟨fb, 10, none⟩ = some (.pointer frp))) (fun hHeld => ?_)
  clear hK K 
  refine wpAnyH_take (i := 14) (v := ?_) rfl (by kernel_rfl) (by kernel_rfl) (by kernel_rfl) (fun _ _ _ h => h) (Or.inl ⟨by rfl, ?_⟩) (by assumption) ?_
  rotate_left
  · intro w hSw
    go_simp
    try with_reducible rfl
  simp only [Act.put, List.getElem_toArray, List.getElem_cons_zero, List.getElem_cons_succ, List.setIfInBounds_toArray, List.set_cons_zero, List.set_cons_succ]
  refine wpAnyH_take (i := 15) (v := ?_) rfl (by kernel_rfl) (by kernel_rfl) (by kernel_rfl) (fun _ _ _ h => h) (Or.inl ⟨by rfl, ?_⟩) (by assumption) ?_
  rotate_left
  · intro w hSw
    go_simp
    try with_reducible rfl
  simp only [Act.put, List.getElem_toArray, List.getElem_cons_zero, List.getElem_cons_succ, List.setIfInBounds_toArray, List.set_cons_zero, List.set_cons_succ]
  refine wpAnyH_done (by kernel_rfl) (NoPanic.normal ?_) _
  clear hHeld u0 u1 u2 u3 u4 x0 x1 x2 x3 x4 a0 a1 a2 a3 a4 b0 b1 b2 b3 b4
  have H1' := aside (H1.out.setw HC.out fv).drew
  have W5s := aside (show (World.drew (setE V1 w1.heap.size fv)).heap.size = V1.heap.size from size_setE V1 w1.heap.size fv)
  have W5c := aside (fun (p : Addr) (y : Value) (h : V1.cell? p = some y) (hne : p.block ≠ w1.heap.size) => (cell_drew_own _ _).trans (setE_cell (W := V1) fv h hne))
  unfold setE at H1' W5s W5c
  generalize World.drew (((((World.setCell V1 ⟨w1.heap.size, 0, none⟩ (.string fv.k)).setCell ⟨w1.heap.size, 1, none⟩ (.int .i64 fv.c)).setCell ⟨w1.heap.size, 2, none⟩ (.int .i64 fv.n)).setCell ⟨w1.heap.size, 3, none⟩ (.string fv.v)).setCell ⟨w1.heap.size, 4, none⟩ (.bool fv.d)) = W5 at *
  have c0 := cell_one H1'.out.bt
  have c1 := cell_one H1'.out.bk
  obtain ⟨v0, v1, v2, v3, v4, -, -, -, -, -⟩ := penta H1'.out.bv
  obtain ⟨q0, q1, q2, -, -, -⟩ := tri H1'.out.bs
  gi_wp2_with fail
  refine ⟨trivial, ?_⟩
  refine (callsIn_wide.2 (hangE HB (l := fl) (r := fr) k v s H1'.out.tobj H1'.out.cnt (HFL.out.on H1'.out.stay) (HFR.out.on H1'.out.stay) (putFitBE HF.out HW.out))).mono ?_
  rintro e w2 ⟨p1, rfl, i1, bc, kk⟩
  have WSZ := aside (show w1.heap.size ≤ W5.heap.size from by rw [W5s.out]; have := VS.out; omega)
  have WCL := aside (fun (p : Addr) (y : Value) (h : w1.cell? p = some y) (hne : p.block < w1.heap.size) => W5c.out p y ((WA.out.cell (p := p) hne).trans h) (by omega))
  have H2 := aside (H1'.out.on HC.out kk bc)
  have I1 := aside i1
  obtain ⟨es, e1, e2, e3, e4, e5, e6⟩ := HR.out
  have HL := aside (show pre.length ≤ 1000000 from by have h2 := Tr.path_le k T; rw [← e3, List.length_map, e1] at h2; have := HHT.out; omega)
  have W1 := aside (show w1.heap.size ≤ w2.heap.size from by have := kk.size; have := WSZ.out; omega)
  have E4 := aside (fun j h => (kk.cell (p := ⟨bb, j, none⟩) (by have := e5; have := WSZ.out; dsimp only; omega) (HC.out.lt (by dsimp only; have := US.out; omega))).trans (WCL.out _ _ (e4 j h) (by dsimp only; omega)))
  have E1 := aside e1
  have E2 := aside e2
  have E3 := aside e3
  have E5 := aside e5
  have E6 := aside e6
  clear i1 bc kk e1 e2 e3 e4 e5 e6 HR H1' c0 c1 v0 v1 v2 v3 v4 q0 q1 q2 WSZ WCL H1 VS W5s W5c NF n1 n2 n3 n4 n5 n9 n10 WA
  gi_wp2_with fail
  refine ⟨trivial, ?_⟩
  refine (bkE (nn - 1) _ _ _ _).mono ?_
  rintro e w3 ⟨rfl, rfl⟩
  gi_wp2_with fail
  have HP := aside (putMidE (T := T) H2.out I1.out HC.out US.out E4.out E5.out E6.out W1.out (len := pre.length) (cap := cap))
  generalize hW0 : (w2.alloc (.cells #[.pointer p1] 139)).alloc (.cells #[.slice (some ⟨bb, 0, none⟩) pre.length cap] 138) = W0 at *
  obtain ⟨P1, P2, P3, P4, P5, P6, P7, P8⟩ := HP.out
  clear hW0 HP H2 I1 E4
  refine wpIn_rangeFunc_ownG rfl h1 (gf := 104) (lb := #[.pointer (some ⟨w2.heap.size + 1, 0, none⟩)]) rfl trivial (enters_of Tryd.func104 (by kernel_rfl) rfl)
    (bkStopsE es c (nn - 1) (by omega) (w2.heap.size + 1) w2.heap.size W0.heap.size bb pre.length cap W0 E1.out HL.out P4 P5 (Nat.le_refl _) P6 P7 (by omega) (by have := E5.out; have := W1.out; omega) (cell_one P2) E2.out P3)
    KpC.t (KpC.b (Nat.le_refl _)) (Below.refl _ _) (fun _ => rfl)
    (PIE w U W0 tb (n + Tr.hangC fl fr) w2.heap.size (T.wt tSz) jv p0 c k v s true w1.heap.size fv (Tr.node fl k v s fr))
    (fun _ _ _ => False) (PIE.own P8) (fun _ s A B row h => h.elim) P1 ?a1 ?assign ?body ?done ?stop
  case assign =>
    intro l x W K hK
    dsimp only [encsE]
    gi_wp2
    exact hK
  case stop =>
    rintro D cc pre' W hD _ h
    exact h.elim
  case done =>
    rintro D ys W hD rfl hI hK
    obtain ⟨st, ⟨q, hm, hq⟩, kp⟩ := hI
    have c0 := cell_one st.bt
    have c1 := cell_one hm
    obtain ⟨-, -, -, -, r0, z0⟩ := tobjE st.tobj
    have hK' := putDefE (q := q) (e := fv) st hK rfl
    have HE := aside (putEndE (o' := .deferred none) st HC.out hq hK rfl (by omega))
    have HL := aside (putLastE (q := q) st)
    obtain ⟨u0, u1, u2, u3, u4, -, -, -, -, -⟩ := penta HL.out.1
    obtain ⟨y0, y1, y2, y3, y4, x0, x1, x2, x3, x4⟩ := penta HL.out.2
    have hu : Tr.ups k (Tr.node fl k v s fr) (es.reverse.map (·.t)) = Tr.put k v s T := by
      have hp := Tr.put_ups k v s T
      rw [HF.out] at hp
      rw [List.map_reverse, E3.out]
      exact hp
    have hcs : (n + Tr.hangC fl fr) + Tr.upsC k (Tr.node fl k v s fr) (es.reverse.map (·.t)) = n + Tr.putC k v s T := by
      unfold Tr.putC
      rw [HF.out, List.map_reverse, E3.out, Nat.add_assoc]
      rfl
    rw [hu, hcs] at HE
    clear hm hq kp st hu hcs
    gi_wp2
    refine ⟨by simp, .inl ⟨_, _, rfl, run_takeDeferred hK', ?_⟩⟩
    obtain ⟨g0, g1, g2, g3, g4, -, -, -, -, -⟩ := penta HE.out.2.2.2
    unfold setE at g0 g1 g2 g3 g4 HE
    refine ⟨.tuple #[.agg #[.string fv.k, .int .i64 fv.c, .int .i64 fv.n, .string fv.v, .bool fv.d], .bool true], by simp [results, Tryd.f60, go_sem, g0, g1, g2, g3, g4], by rw [HF.out]; rfl, HE.out.1, HE.out.2.1, HE.out.2.2.1⟩
  case body =>
    rintro l pre' x W hI hlt
    have HI := aside hI
    have HM := aside (putRoomE E1.out E3.out hlt (putBaseBE (v := v) HF.out) HW.out)
    obtain ⟨st, ⟨q, hm, hq⟩, kp⟩ := hI
    obtain ⟨xb, lp, rp, xe, hxb, hxl, hxr⟩ := x.ok
    injection xe with xe
    injection xe with xe
    have HX := aside (show U.heap[x.b]? = some _ from xe ▸ hxb)
    have XL := aside (hxl.on st.stay)
    have XR := aside (hxr.on st.stay)
    have HQ := aside hq
    have HS := aside st
    have HMd := aside hm
    have XW := aside (show (Tr.node x.l x.k x.v x.s x.r).wt tSz ≤ T.wt tSz from x.le)
    clear st hm hq kp hxb hxl hxr xe hlt
    have kc := cell_one HS.out.bk
    gi_wp2_with fail
    refine wpIn_region_held (S := fun X => X.cell? ⟨w.heap.size + 1, 0, none⟩ = some (.string k) ∧ X.cell? ⟨x.b, 0, none⟩ = some (.string x.k)) (by kernel_rfl) (by kernel_rfl) (fun ⟨_, _, h⟩ => h) ⟨cell_one HS.out.drew.bk, (nodeE (HS.out.drew.stay _ _ HX.out)).1⟩ (fun hHeld => ?_)
    refine wpAnyH_take (i := 0) (v := ?_) rfl (by kernel_rfl) (by kernel_rfl) (by kernel_rfl) (fun _ _ _ h => h) (Or.inl ⟨by rfl, ?_⟩) (by assumption) ?_
    rotate_left
    · intro w hSw
      go_simp
      try with_reducible rfl
    simp only [Act.put, List.getElem_toArray, List.getElem_cons_zero, List.setIfInBounds_toArray, List.set_cons_zero, List.set_cons_succ]
    refine wpAnyH_take (i := 1) (v := ?_) rfl (by kernel_rfl) (by kernel_rfl) (by kernel_rfl) (fun _ _ _ h => h) (Or.inl ⟨by rfl, ?_⟩) (by assumption) ?_
    rotate_left
    · intro w hSw
      go_simp
      try with_reducible rfl
    simp only [Act.put, List.getElem_toArray, List.getElem_cons_zero, List.getElem_cons_succ, List.setIfInBounds_toArray, List.set_cons_zero, List.set_cons_succ]
    refine wpAnyH_take (i := 2) (v := ?_) rfl (by kernel_rfl) (by kernel_rfl) (by kernel_rfl) (fun _ _ _ h => h) (Or.inl ⟨by rfl, ?_⟩) (by assumption) ?_
    rotate_left
    · intro w hSw
      go_simp
      try with_reducible rfl
    simp only [Act.put, List.getElem_toArray, List.getElem_cons_zero, List.getElem_cons_succ, List.setIfInBounds_toArray, List.set_cons_zero, List.set_cons_succ]
    refine wpAnyH_take (i := 3) (v := ?_) rfl (by kernel_rfl) (by kernel_rfl) (by kernel_rfl) (fun _ _ _ h => h) (Or.inl ⟨by rfl, ?_⟩) (by assumption) ?_
    rotate_left
    · intro w hSw
      go_simp
      try with_reducible rfl
    simp only [Act.put, List.getElem_toArray, List.getElem_cons_zero, List.getElem_cons_succ, List.setIfInBounds_toArray, List.set_cons_zero, List.set_cons_succ]
    refine wpAnyH_take (i := 4) (v := ?_) rfl (by kernel_rfl) (by kernel_rfl) (by kernel_rfl) (fun _ _ _ h => h) (Or.inl ⟨by rfl, ?_⟩) (by assumption) ?_
    rotate_left
    · intro w hSw
      go_simp
      try with_reducible rfl
    simp only [Act.put, List.getElem_toArray, List.getElem_cons_zero, List.getElem_cons_succ, List.setIfInBounds_toArray, List.set_cons_zero, List.set_cons_succ]
    refine wpAnyH_take (i := 5) (v := ?_) rfl (by kernel_rfl) (by kernel_rfl) (by kernel_rfl) (fun _ _ _ h => h) (Or.inl ⟨by rfl, ?_⟩) (by assumption) ?_
    rotate_left
    · intro w hSw
      go_simp
      try with_reducible rfl
    simp only [Act.put, List.getElem_toArray, List.getElem_cons_zero, List.getElem_cons_succ, List.setIfInBounds_toArray, List.set_cons_zero, List.set_cons_succ]
    refine wpAnyH_take (i := 6) (v := ?_) rfl (by kernel_rfl) (by kernel_rfl) (by kernel_rfl) (fun _ _ _ h => h) (Or.inl ⟨by rfl, ?_⟩) (by assumption) ?_
    rotate_left
    · intro w hSw
      go_simp
      try with_reducible rfl
    simp only [Act.put, List.getElem_toArray, List.getElem_cons_zero, List.getElem_cons_succ, List.setIfInBounds_toArray, List.set_cons_zero, List.set_cons_succ]
    refine wpAnyH_done (by kernel_rfl) ?_ _
    clear hHeld kc
    cases hq1 : Op.bytesLess k.toList x.k.toList
    · have HQ1 := aside (show kLt k x.k = false from hq1)
      gi_wp2_with fail
      refine wpIn_region_held (S := fun X => X.cell? ⟨w.heap.size, 0, none⟩ = some (.pointer (some ⟨tb, 0, none⟩)) ∧ X.cell? ⟨x.b, 0, none⟩ = some (.string x.k) ∧ X.cell? ⟨x.b, 1, none⟩ = some (.string x.v.k) ∧ X.cell? ⟨x.b, 2, none⟩ = some (.int .i64 x.v.c) ∧ X.cell? ⟨x.b, 3, none⟩ = some (.int .i64 x.v.n) ∧ X.cell? ⟨x.b, 4, none⟩ = some (.string x.v.v) ∧ X.cell? ⟨x.b, 5, none⟩ = some (.bool x.v.d) ∧ X.cell? ⟨x.b, 6, none⟩ = some (.int .i64 x.s.n) ∧ X.cell? ⟨x.b, 7, none⟩ = some (.int .u64 x.s.a) ∧ X.cell? ⟨x.b, 8, none⟩ = some (.int .u64 x.s.b) ∧ X.cell? ⟨x.b, 9, none⟩ = some (.pointer lp)) (by kernel_rfl) (by kernel_rfl) (fun ⟨_, _, h⟩ => h) (putHeldlE HS.out.drew.drew HX.out) (fun hHeld => ?_)
      refine wpAnyH_take (i := 0) (v := ?_) rfl (by kernel_rfl) (by kernel_rfl) (by kernel_rfl) (fun _ _ _ h => h) (Or.inl ⟨by rfl, ?_⟩) (by assumption) ?_
      rotate_left
      · intro w hSw
        go_simp
        try with_reducible rfl
      simp only [Act.put, List.getElem_toArray, List.getElem_cons_zero, List.setIfInBounds_toArray, List.set_cons_zero, List.set_cons_succ]
      refine wpAnyH_take (i := 1) (v := ?_) rfl (by kernel_rfl) (by kernel_rfl) (by kernel_rfl) (fun _ _ _ h => h) (Or.inl ⟨by rfl, ?_⟩) (by assumption) ?_
      rotate_left
      · intro w hSw
        go_simp
        try with_reducible rfl
      simp only [Act.put, List.getElem_toArray, List.getElem_cons_zero, List.getElem_cons_succ, List.setIfInBounds_toArray, List.set_cons_zero, List.set_cons_succ]
      refine wpAnyH_take (i := 2) (v := ?_) rfl (by kernel_rfl) (by kernel_rfl) (by kernel_rfl) (fun _ _ _ h => h) (Or.inl ⟨by rfl, ?_⟩) (by assumption) ?_
      rotate_left
      · intro w hSw
        go_simp
        try with_reducible rfl
      simp only [Act.put, List.getElem_toArray, List.getElem_cons_zero, List.getElem_cons_succ, List.setIfInBounds_toArray, List.set_cons_zero, List.set_cons_succ]
      refine wpAnyH_take (i := 3) (v := ?_) rfl (by kernel_rfl) (by kernel_rfl) (by kernel_rfl) (fun _ _ _ h => h) (Or.inl ⟨by rfl, ?_⟩) (by assumption) ?_
      rotate_left
      · intro w hSw
        go_simp
        try with_reducible rfl
      simp only [Act.put, List.getElem_toArray, List.getElem_cons_zero, List.getElem_cons_succ, List.setIfInBounds_toArray, List.set_cons_zero, List.set_cons_succ]
      refine wpAnyH_take (i := 4) (v := ?_) rfl (by kernel_rfl) (by kernel_rfl) (by kernel_rfl) (fun _ _ _ h => h) (Or.inl ⟨by rfl, ?_⟩) (by assumption) ?_
      rotate_left
      · intro w hSw
        go_simp
        try with_reducible rfl
      simp only [Act.put, List.getElem_toArray, List.getElem_cons_zero, List.getElem_cons_succ, List.setIfInBounds_toArray, List.set_cons_zero, List.set_cons_succ]
      refine wpAnyH_take (i := 5) (v := ?_) rfl (by kernel_rfl) (by kernel_rfl) (by kernel_rfl) (fun _ _ _ h => h) (Or.inl ⟨by rfl, ?_⟩) (by assumption) ?_
      rotate_left
      · intro w hSw
        go_simp
        try with_reducible rfl
      simp only [Act.put, List.getElem_toArray, List.getElem_cons_zero, List.getElem_cons_succ, List.setIfInBounds_toArray, List.set_cons_zero, List.set_cons_succ]
      refine wpAnyH_take (i := 6) (v := ?_) rfl (by kernel_rfl) (by kernel_rfl) (by kernel_rfl) (fun _ _ _ h => h) (Or.inl ⟨by rfl, ?_⟩) (by assumption) ?_
      rotate_left
      · intro w hSw
        go_simp
        try with_reducible rfl
      simp only [Act.put, List.getElem_toArray, List.getElem_cons_zero, List.getElem_cons_succ, List.setIfInBounds_toArray, List.set_cons_zero, List.set_cons_succ]
      refine wpAnyH_take (i := 7) (v := ?_) rfl (by kernel_rfl) (by kernel_rfl) (by kernel_rfl) (fun _ _ _ h => h) (Or.inl ⟨by rfl, ?_⟩) (by assumption) ?_
      rotate_left
      · intro w hSw
        go_simp
        try with_reducible rfl
      simp only [Act.put, List.getElem_toArray, List.getElem_cons_zero, List.getElem_cons_succ, List.setIfInBounds_toArray, List.set_cons_zero, List.set_cons_succ]
      refine wpAnyH_take (i := 8) (v := ?_) rfl (by kernel_rfl) (by kernel_rfl) (by kernel_rfl) (fun _ _ _ h => h) (Or.inl ⟨by rfl, ?_⟩) (by assumption) ?_
      rotate_left
      · intro w hSw
        go_simp
        try with_reducible rfl
      simp only [Act.put, List.getElem_toArray, List.getElem_cons_zero, List.getElem_cons_succ, List.setIfInBounds_toArray, List.set_cons_zero, List.set_cons_succ]
      have m0 := cell_one (show (World.drew (World.drew W)).heap[w2.heap.size]? = some _ from HMd.out)
      refine wpAnyH_ready (rs := [9]) (by kernel_rfl) (by simp) ?_
      refine AllReadyH.cons rfl (fun K hK => ?_) AllReadyH.nil
      go_simp
      refine hK.out _ _ (hHeld) (fun hHeld => ?_)
      clear hK K 
      clear m0
      refine wpAnyH_ready (rs := [10]) (by kernel_rfl) (by simp) ?_
      refine AllReadyH.cons rfl (fun K hK => ?_) AllReadyH.nil
      go_simp
      refine (levelE HB x.k x.v x.s HS.out.drew.drew.tobj HS.out.drew.drew.cnt (XL.out.on (Stay.refl _ _).drew.drew) (HQ.out.on (Stay.refl _ _).drew.drew) (by have h8 := XW.out; have h9 := HM.out; simp only [Tr.wt] at h8 ⊢; omega)).mono ?_
      rintro e w9 ⟨p9, rfl, ii, bc, kk⟩
      refine hK.out _ _ (putHeldlE (HS.out.drew.drew.on HC.out kk bc) HX.out) (fun hHeld => ?_)
      clear hK K 
      have K9 := aside (show Keeps (OnC c) W w9 from ⟨kk.os, kk.tape, kk.output, kk.size, kk.block⟩)
      have m9 := blk_keep HMd.out K9.out (HC.out.lt (by have := US.out; have := W1.out; have := E5.out; have := E6.out; omega))
      have m0 := cell_one m9
      have z0 := frozen_one m9
      have FIN := aside (putStepE (x := x) HI.out HC.out (by have := US.out; have := W1.out; have := E5.out; have := E6.out; omega) K9.out (by have h9 := bc; rw [show Tr.stepC k x.t (Tr.ups k (Tr.node fl k v s fr) (pre'.map (·.t))) = Tr.levelC x.l (Tr.ups k (Tr.node fl k v s fr) (pre'.map (·.t))) from by simp only [Tr.stepC, BEE.t, HQ1.out, if_false, Bool.false_eq_true]]; exact h9) (by have h9 := ii; rw [show Tr.step k x.t (Tr.ups k (Tr.node fl k v s fr) (pre'.map (·.t))) = Tr.level x.k x.v x.s x.l (Tr.ups k (Tr.node fl k v s fr) (pre'.map (·.t))) from by simp only [Tr.step, BEE.t, HQ1.out, if_false, Bool.false_eq_true]]; exact h9))
      clear ii bc kk
      refine wpAnyH_ready (rs := [11]) (by kernel_rfl) (by simp) ?_
      refine AllReadyH.cons rfl (fun K hK => ?_) AllReadyH.nil
      go_simp
      refine hK.out _ _ (putSetlE hHeld HX.out HS.out K9.out HC.out m9) (fun hHeld => ?_)
      clear hK K 
      refine wpAnyH_done (by kernel_rfl) ?_ _
      clear hHeld m0 z0
      gi_wp2
      exact FIN.out
    · have HQ1 := aside (show kLt k x.k = true from hq1)
      gi_wp2_with fail
      refine wpIn_region_held (S := fun X => X.cell? ⟨w.heap.size, 0, none⟩ = some (.pointer (some ⟨tb, 0, none⟩)) ∧ X.cell? ⟨x.b, 0, none⟩ = some (.string x.k) ∧ X.cell? ⟨x.b, 1, none⟩ = some (.string x.v.k) ∧ X.cell? ⟨x.b, 2, none⟩ = some (.int .i64 x.v.c) ∧ X.cell? ⟨x.b, 3, none⟩ = some (.int .i64 x.v.n) ∧ X.cell? ⟨x.b, 4, none⟩ = some (.string x.v.v) ∧ X.cell? ⟨x.b, 5, none⟩ = some (.bool x.v.d) ∧ X.cell? ⟨x.b, 6, none⟩ = some (.int .i64 x.s.n) ∧ X.cell? ⟨x.b, 7, none⟩ = some (.int .u64 x.s.a) ∧ X.cell? ⟨x.b, 8, none⟩ = some (.int .u64 x.s.b) ∧ X.cell? ⟨x.b, 10, none⟩ = some (.pointer rp)) (by kernel_rfl) (by kernel_rfl) (fun ⟨_, _, h⟩ => h) (putHeldrE HS.out.drew.drew HX.out) (fun hHeld => ?_)
      refine wpAnyH_take (i := 0) (v := ?_) rfl (by kernel_rfl) (by kernel_rfl) (by kernel_rfl) (fun _ _ _ h => h) (Or.inl ⟨by rfl, ?_⟩) (by assumption) ?_
      rotate_left
      · intro w hSw
        go_simp
        try with_reducible rfl
      simp only [Act.put, List.getElem_toArray, List.getElem_cons_zero, List.setIfInBounds_toArray, List.set_cons_zero, List.set_cons_succ]
      refine wpAnyH_take (i := 1) (v := ?_) rfl (by kernel_rfl) (by kernel_rfl) (by kernel_rfl) (fun _ _ _ h => h) (Or.inl ⟨by rfl, ?_⟩) (by assumption) ?_
      rotate_left
      · intro w hSw
        go_simp
        try with_reducible rfl
      simp only [Act.put, List.getElem_toArray, List.getElem_cons_zero, List.getElem_cons_succ, List.setIfInBounds_toArray, List.set_cons_zero, List.set_cons_succ]
      refine wpAnyH_take (i := 2) (v := ?_) rfl (by kernel_rfl) (by kernel_rfl) (by kernel_rfl) (fun _ _ _ h => h) (Or.inl ⟨by rfl, ?_⟩) (by assumption) ?_
      rotate_left
      · intro w hSw
        go_simp
        try with_reducible rfl
      simp only [Act.put, List.getElem_toArray, List.getElem_cons_zero, List.getElem_cons_succ, List.setIfInBounds_toArray, List.set_cons_zero, List.set_cons_succ]
      refine wpAnyH_take (i := 3) (v := ?_) rfl (by kernel_rfl) (by kernel_rfl) (by kernel_rfl) (fun _ _ _ h => h) (Or.inl ⟨by rfl, ?_⟩) (by assumption) ?_
      rotate_left
      · intro w hSw
        go_simp
        try with_reducible rfl
      simp only [Act.put, List.getElem_toArray, List.getElem_cons_zero, List.getElem_cons_succ, List.setIfInBounds_toArray, List.set_cons_zero, List.set_cons_succ]
      refine wpAnyH_take (i := 4) (v := ?_) rfl (by kernel_rfl) (by kernel_rfl) (by kernel_rfl) (fun _ _ _ h => h) (Or.inl ⟨by rfl, ?_⟩) (by assumption) ?_
      rotate_left
      · intro w hSw
        go_simp
        try with_reducible rfl
      simp only [Act.put, List.getElem_toArray, List.getElem_cons_zero, List.getElem_cons_succ, List.setIfInBounds_toArray, List.set_cons_zero, List.set_cons_succ]
      refine wpAnyH_take (i := 6) (v := ?_) rfl (by kernel_rfl) (by kernel_rfl) (by kernel_rfl) (fun _ _ _ h => h) (Or.inl ⟨by rfl, ?_⟩) (by assumption) ?_
      rotate_left
      · intro w hSw
        go_simp
        try with_reducible rfl
      simp only [Act.put, List.getElem_toArray, List.getElem_cons_zero, List.getElem_cons_succ, List.setIfInBounds_toArray, List.set_cons_zero, List.set_cons_succ]
      refine wpAnyH_take (i := 7) (v := ?_) rfl (by kernel_rfl) (by kernel_rfl) (by kernel_rfl) (fun _ _ _ h => h) (Or.inl ⟨by rfl, ?_⟩) (by assumption) ?_
      rotate_left
      · intro w hSw
        go_simp
        try with_reducible rfl
      simp only [Act.put, List.getElem_toArray, List.getElem_cons_zero, List.getElem_cons_succ, List.setIfInBounds_toArray, List.set_cons_zero, List.set_cons_succ]
      refine wpAnyH_take (i := 8) (v := ?_) rfl (by kernel_rfl) (by kernel_rfl) (by kernel_rfl) (fun _ _ _ h => h) (Or.inl ⟨by rfl, ?_⟩) (by assumption) ?_
      rotate_left
      · intro w hSw
        go_simp
        try with_reducible rfl
      simp only [Act.put, List.getElem_toArray, List.getElem_cons_zero, List.getElem_cons_succ, List.setIfInBounds_toArray, List.set_cons_zero, List.set_cons_succ]
      refine wpAnyH_take (i := 9) (v := ?_) rfl (by kernel_rfl) (by kernel_rfl) (by kernel_rfl) (fun _ _ _ h => h) (Or.inl ⟨by rfl, ?_⟩) (by assumption) ?_
      rotate_left
      · intro w hSw
        go_simp
        try with_reducible rfl
      simp only [Act.put, List.getElem_toArray, List.getElem_cons_zero, List.getElem_cons_succ, List.setIfInBounds_toArray, List.set_cons_zero, List.set_cons_succ]
      have m0 := cell_one (show (World.drew (World.drew W)).heap[w2.heap.size]? = some _ from HMd.out)
      refine wpAnyH_ready (rs := [5]) (by kernel_rfl) (by simp) ?_
      refine AllReadyH.cons rfl (fun K hK => ?_) AllReadyH.nil
      go_simp
      refine hK.out _ _ (hHeld) (fun hHeld => ?_)
      clear hK K 
      clear m0
      refine wpAnyH_ready (rs := [10]) (by kernel_rfl) (by simp) ?_
      refine AllReadyH.cons rfl (fun K hK => ?_) AllReadyH.nil
      go_simp
      refine (levelE HB x.k x.v x.s HS.out.drew.drew.tobj HS.out.drew.drew.cnt (HQ.out.on (Stay.refl _ _).drew.drew) (XR.out.on (Stay.refl _ _).drew.drew) (by have h8 := XW.out; have h9 := HM.out; simp only [Tr.wt] at h8 ⊢; omega)).mono ?_
      rintro e w9 ⟨p9, rfl, ii, bc, kk⟩
      refine hK.out _ _ (putHeldrE (HS.out.drew.drew.on HC.out kk bc) HX.out) (fun hHeld => ?_)
      clear hK K 
      have K9 := aside (show Keeps (OnC c) W w9 from ⟨kk.os, kk.tape, kk.output, kk.size, kk.block⟩)
      have m9 := blk_keep HMd.out K9.out (HC.out.lt (by have := US.out; have := W1.out; have := E5.out; have := E6.out; omega))
      have m0 := cell_one m9
      have z0 := frozen_one m9
      have FIN := aside (putStepE (x := x) HI.out HC.out (by have := US.out; have := W1.out; have := E5.out; have := E6.out; omega) K9.out (by have h9 := bc; rw [show Tr.stepC k x.t (Tr.ups k (Tr.node fl k v s fr) (pre'.map (·.t))) = Tr.levelC (Tr.ups k (Tr.node fl k v s fr) (pre'.map (·.t))) x.r from by simp only [Tr.stepC, BEE.t, HQ1.out, if_true]]; exact h9) (by have h9 := ii; rw [show Tr.step k x.t (Tr.ups k (Tr.node fl k v s fr) (pre'.map (·.t))) = Tr.level x.k x.v x.s (Tr.ups k (Tr.node fl k v s fr) (pre'.map (·.t))) x.r from by simp only [Tr.step, BEE.t, HQ1.out, if_true]]; exact h9))
      clear ii bc kk
      refine wpAnyH_ready (rs := [11]) (by kernel_rfl) (by simp) ?_
      refine AllReadyH.cons rfl (fun K hK => ?_) AllReadyH.nil
      go_simp
      refine hK.out _ _ (putSetrE hHeld HX.out HS.out K9.out HC.out m9) (fun hHeld => ?_)
      clear hK K 
      refine wpAnyH_done (by kernel_rfl) ?_ _
      clear hHeld m0 z0
      gi_wp2
      exact FIN.out
end Go.Proofs.YtlbkcndmljlnmaaDoor
namespace Go.Proofs.YtlbkcndmljlnmaaDoor
open Go.RowKit Go.Shelf
set_option linter.unusedVariables false
theorem putE {jv : Value} {c : Option Nat} (HB : BothOkE jv c) (k : ByteArray) (v : En) (s : Tl) {w : World} {tb n : Nat} {p0 : Option Addr} {T : Tr En Tl} (ht : TObjE w tb jv p0) (hc : CntE c n w) (hT : IsTE w p0 T) (hh : T.ht ≤ 1000000) (hcn : T.cnt ≤ 4611686018427387904) (hw : (T.ht + 2) * (T.wt tSz + 1 + tSz s) ≤ 4611686018427387904) :
    Calls Tryd.prog 60 #[.pointer (some ⟨tb, 0, none⟩), .string k, .agg #[.string v.k, .int .i64 v.c, .int .i64 v.n, .string v.v, .bool v.d], .agg #[.int .i64 s.n, .int .u64 s.a, .int .u64 s.b]] w fun e w' => e = .returned (.tuple #[.agg #[.string ((Tr.found k T).val eNone).k, .int .i64 ((Tr.found k T).val eNone).c, .int .i64 ((Tr.found k T).val eNone).n, .string ((Tr.found k T).val eNone).v, .bool ((Tr.found k T).val eNone).d], .bool (!(Tr.found k T).isNil)]) ∧ (∃ p, TObjE w' tb jv p ∧ IsTE w' p (Tr.put k v s T)) ∧ CntE c (n + Tr.putC k v s T) w' ∧ Keeps (fun x => x = tb ∨ OnC c x) w w' := by
  refine (callsIn_wide (n := 3)).1 ?_
  cases hF : Tr.found k T with
  | nil => rw [← hF]; exact putAE HB 3 (Nat.le_refl _) k v s ht hc hT hh hcn hw hF
  | node fl fk fv fs fr => rw [← hF]; exact putBE HB 3 (Nat.le_refl _) k v s ht hc hT hh hcn hw hF
end Go.Proofs.YtlbkcndmljlnmaaDoor
namespace Go.Proofs.YtlbkcndmljlnmaaDoor
open Go.RowKit
set_option linter.unusedVariables false
set_option maxHeartbeats 1600000 in
theorem lenE {w : World} {tb : Nat} {jv : Value} {p0 : Option Addr} {T : Tr En Tl} (ht : TObjE w tb jv p0) (hT : IsTE w p0 T) :
    Calls Tryd.prog 55 #[.pointer (some ⟨tb, 0, none⟩)] w fun e w' => e = .returned (.int .i64 (T.cnt : Int)) ∧ w' = w := by
  obtain ⟨-, -, -, -, r0, -⟩ := tobjE ht
  have C := aside (rowsE hT)
  generalize (T.cnt : Int) = n at *
  clear ht hT
  go_enter Tryd.func55, Tryd.ntmps55
  go_wp2_with fail
  refine C.out.mono ?_
  rintro e w1 ⟨rfl, rfl⟩
  go_wp2
  go_ret
  exact ⟨rfl, rfl⟩
set_option maxHeartbeats 1600000 in
set_option maxRecDepth 100000 in
theorem rankE (k : ByteArray) {w : World} {tb : Nat} {jv : Value} {p0 : Option Addr} {T : Tr En Tl} (ht : TObjE w tb jv p0) (hT : IsTE w p0 T) (hh : T.ht ≤ 1000000) (hcn : T.cnt ≤ 4611686018427387904) :
    Calls Tryd.prog 98 #[.pointer (some ⟨tb, 0, none⟩), .string k] w fun e w' => e = .returned (.int .i64 (Tr.lower k T : Int)) ∧ Below w.heap.size w w' := by
  have C := aside (downE k ht hT hh hcn)
  clear ht hT hh hcn
  go_enter Tryd.func98, Tryd.ntmps98
  go_wp2_with fail
  refine C.out.mono ?_
  rintro e w1 ⟨pre, p, b, cap, rfl, h1, h2, h3, h4, h5⟩
  have H3 := aside h3
  clear h1 h2 h3 h4 h5 C
  go_wp2
  go_ret
  exact ⟨rfl, H3.out⟩
set_option maxHeartbeats 1600000 in
set_option maxRecDepth 100000 in
theorem getE (k : ByteArray) {w : World} {tb : Nat} {jv : Value} {p0 : Option Addr} {T : Tr En Tl} (ht : TObjE w tb jv p0) (hT : IsTE w p0 T) (hh : T.ht ≤ 1000000) (hcn : T.cnt ≤ 4611686018427387904) :
    Calls Tryd.prog 53 #[.pointer (some ⟨tb, 0, none⟩), .string k] w fun e w' => e = .returned (.tuple #[.agg #[.string ((Tr.found k T).val eNone).k, .int .i64 ((Tr.found k T).val eNone).c, .int .i64 ((Tr.found k T).val eNone).n, .string ((Tr.found k T).val eNone).v, .bool ((Tr.found k T).val eNone).d], .bool (!(Tr.found k T).isNil)]) ∧ Below w.heap.size w w' := by
  have b0 := bnew w (.cells #[.string ⟨#[]⟩, .int .i64 0, .int .i64 0, .string ⟨#[]⟩, .bool false] 44)
  have C := aside (downE k (blk_on ht b0) (hT.on ((Stay.refl _ _).alloc _)) hh hcn)
  have B0 := aside b0
  have G0 := aside (heap_alloc_new w (.cells #[.string ⟨#[]⟩, .int .i64 0, .int .i64 0, .string ⟨#[]⟩, .bool false] 44))
  obtain ⟨F, hF⟩ : ∃ F, Tr.found k T = F := ⟨_, rfl⟩
  have HF := aside hF
  rw [hF]
  clear ht hT hh hcn hF b0
  go_enter Tryd.func53, Tryd.ntmps53
  go_wp2_with fail
  refine C.out.mono ?_
  rintro e w1 ⟨pre, p, b, cap, rfl, h1, h2, h3, h4, h5⟩
  have H3 := aside (bthen B0.out h3)
  rw [HF.out] at h1
  have G1 := aside (blk_on G0.out h3)
  have H4 := aside h3
  clear h2 h3 h4 h5 C HF G0
  have hB := aside H3.out
  cases F with
  | nil =>
    obtain rfl : p = none := h1
    obtain ⟨s0, s1, s2, s3, s4, z0, z1, z2, z3, z4⟩ := penta (blk_on G1.out (bnew w1 (.cells #[.string ⟨#[]⟩, .int .i64 0, .int .i64 0, .string ⟨#[]⟩, .bool false] 44)))
    go_wp2
    refine bodyPost_ret (v := .tuple #[.agg #[.string ⟨#[]⟩, .int .i64 0, .int .i64 0, .string ⟨#[]⟩, .bool false], .bool false]) (by simp [results, Tryd.results53, go_sem, s0, s1, s2, s3, s4]) rfl ⟨rfl, ?_⟩
    exact (((((bthen hB.out (bnew w1 _)).setCell (by dsimp only; omega) _).setCell (by dsimp only; omega) _).setCell (by dsimp only; omega) _).setCell (by dsimp only; omega) _).setCell (by dsimp only; omega) _
  | node l k' v s r =>
    obtain ⟨b', lp, rp, rfl, hb, _, _⟩ := h1
    have hn := nodeE (blk_on hb H4.out)
    obtain ⟨-, c0, c1, c2, c3, c4, -, -, -, -, -, -, -, -, -, -⟩ := hn
    obtain ⟨s0, s1, s2, s3, s4, z0, z1, z2, z3, z4⟩ := penta G1.out
    clear hb
    go_wp2
    refine bodyPost_ret (v := .tuple #[.agg #[.string v.k, .int .i64 v.c, .int .i64 v.n, .string v.v, .bool v.d], .bool true]) (by simp [results, Tryd.results53, go_sem, s0, s1, s2, s3, s4]) rfl ⟨rfl, ?_⟩
    exact (((((hB.out).setCell (by dsimp only; omega) _).setCell (by dsimp only; omega) _).setCell (by dsimp only; omega) _).setCell (by dsimp only; omega) _).setCell (by dsimp only; omega) _
set_option maxHeartbeats 1600000 in
set_option maxRecDepth 100000 in
theorem newE (fn : Fn) (first cap : Array Value) (w : World) :
    Calls Tryd.prog 57 #[.agg #[.int .i64 0, .int .u64 0, .int .u64 0], .func fn first cap] w fun e w' => ∃ tb, e = .returned (.pointer (some ⟨tb, 0, none⟩)) ∧ TObjE w' tb (.func fn first cap) none ∧ Below w.heap.size w w' ∧ w.heap.size ≤ tb := by
  have H1 := aside (heap_alloc_new (w.alloc (.cells #[.int .i64 0, .int .u64 0, .int .u64 0] 97)) (.cells #[.int .i64 0, .int .u64 0, .int .u64 0, .func fn first cap, .pointer none] 148))
  go_enter Tryd.func57, Tryd.ntmps57
  go_wp2
  go_ret
  refine ⟨_, rfl, by have := H1.out; simp only [World.size_alloc] at this; exact this, (bnew w _).alloc (by simp) _, by omega⟩
end Go.Proofs.YtlbkcndmljlnmaaDoor
namespace Go.Proofs.YtlbkcndmljlnmaaDoor
open Go.RowKit
set_option linter.unusedVariables false
end Go.Proofs.YtlbkcndmljlnmaaDoor
namespace Go.Proofs.YtlbkcndmljlnmaaDoor
open Go.RowKit
set_option linter.unusedVariables false
end Go.Proofs.YtlbkcndmljlnmaaDoor
namespace Go.Proofs.YtlbkcndmljlnmaaDoor
open Go.RowKit
set_option linter.unusedVariables false
end Go.Proofs.YtlbkcndmljlnmaaDoor
namespace Go.Proofs.YtlbkcndmljlnmaaDoor
open Go.RowKit
set_option linter.unusedVariables false
end Go.Proofs.YtlbkcndmljlnmaaDoor
namespace Go.Proofs.YtlbkcndmljlnmaaDoor
open Go.RowKit
set_option linter.unusedVariables false
end Go.Proofs.YtlbkcndmljlnmaaDoor
namespace Go.Proofs.YtlbkcndmljlnmaaDoor
open Go.RowKit
set_option linter.unusedVariables false
end Go.Proofs.YtlbkcndmljlnmaaDoor
namespace Go.Proofs.YtlbkcndmljlnmaaDoor
open Go.RowKit
set_option linter.unusedVariables false
-- at seats that have 99
end Go.Proofs.YtlbkcndmljlnmaaDoor
namespace Go.Proofs.YtlbkcndmljlnmaaDoor
open Go.RowKit
set_option linter.unusedVariables false
end Go.Proofs.YtlbkcndmljlnmaaDoor

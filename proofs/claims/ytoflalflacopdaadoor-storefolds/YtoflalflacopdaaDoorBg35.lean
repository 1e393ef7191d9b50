/-
  StoreFolds: the round of the loop over the parts.
-/
import Derived.Test.YtoflalflacopdaaDoorBg34
import Derived.LoopIn
namespace Go.Proofs.YtoflalflacopdaaDoor
open Go.RowKit Go.Shelf
set_option linter.unusedVariables false
attribute [local go_sem] Oper.semAt_some
/-- j parts are through. -/
def SfI (w : World) (rb qb sb g tb : Nat) (r : Rg) (ck : Int) (Ls : List En) (q gp cp kt ob smb atb : Nat) (Ft : Tl) (oa : Option Addr) (oc : Nat) (xs : List En) (a' : Act) (X : World) : Prop :=
  ∃ (j : Nat) (Ds : List Nat), j ≤ q + 1 ∧ Ds.length = j + 1 ∧ SlF q rb qb sb kt ob smb atb gp cp j a' ∧ a'.defers = Ds.map (fun D => ({ target := .collected D, args := #[] } : Deferred)) ∧ SfL w rb qb sb g tb r ck Ls kt ob smb atb Ft (sumQ r Ls q j) (atS r Ls q j) (.slice (some ⟨gp, 0, none⟩) (q + 1) cp) (q + 1) (rgCells (cutR r Ls q) (q + 1)) oa oc xs Ds X
set_option maxHeartbeats 12800000 in
set_option maxRecDepth 1000000 in
theorem sf_round {B : Code} (hB : ((Tryd.f3.body.map loopsOfS).getD []).getD 1 .skip = B) {Q : Exit → Act → World → Prop} {w X0 : World} {rb qb sb g tb : Nat} {r : Rg} {ck : Int} {Ls : List En} {q gp cp kt ob smb atb : Nat} {Ft : Tl} {oa : Option Addr} {oc : Nat} {xs : List En} {j : Nat} {Ds : List Nat} {a : Act}
    (hm : MapL Ls) (hl : Ls.length ≤ 256) (hc : r.chk = 0) (hqn : q + 1 ≤ (keysIn r Ls).length) (hown : inL r Ls = xs) (hmx : MapL xs ∧ xs.length ≤ 256 ∧ xs.length = (keysIn r Ls).length) (hfn : Ft.n = ((keysIn r Ls).length : Int))
    (hlt : j < q + 1) (hds : Ds.length = j + 1) (hsl : SlF q rb qb sb kt ob smb atb gp cp j a) (hdf : a.defers = Ds.map (fun D => ({ target := .collected D, args := #[] } : Deferred))) (hL : SfL w rb qb sb g tb r ck Ls kt ob smb atb Ft (sumQ r Ls q j) (atS r Ls q j) (.slice (some ⟨gp, 0, none⟩) (q + 1) cp) (q + 1) (rgCells (cutR r Ls q) (q + 1)) oa oc xs Ds X0) :
    B.wpIn Fence.wide 9 Tryd.prog (Exit.then (fun a' X => SfI w rb qb sb g tb r ck Ls q gp cp kt ob smb atb Ft oa oc xs a' X ∧ q + 2 - a'.defers.length < q + 2 - a.defers.length) Q) a X0 := by
  subst hB
  have hmea : q + 2 - a.defers.length = q + 1 - j := by rw [hdf, List.length_map, hds]; omega
  rw [hmea]
  clear hmea
  obtain ⟨tm, df⟩ := a
  obtain ⟨f, hf⟩ := lit213 tm hsl.sz
  obtain ⟨-, h2, h6, h7, h11, h17, h19, h20, h134, h135, h136⟩ := hsl
  dsimp only at hdf h2 h6 h7 h11 h17 h19 h20 h134 h135 h136
  subst hf hdf
  rw [show f 2 = _ from Option.some.inj h2, show f 6 = _ from Option.some.inj h6, show f 7 = _ from Option.some.inj h7, show f 11 = _ from Option.some.inj h11, show f 17 = _ from Option.some.inj h17, show f 19 = _ from Option.some.inj h19, show f 20 = _ from Option.some.inj h20, show f 134 = _ from Option.some.inj h134, show f 135 = _ from Option.some.inj h135, show f 136 = _ from Option.some.inj h136]
  clear h2 h6 h7 h11 h17 h19 h20 h134 h135 h136
  have HM := aside hm
  have HL256 := aside hl
  have HC := aside hc
  have HQN := aside hqn
  have HOWN := aside hown
  have HMX := aside hmx
  have HFN := aside hfn
  have L1 := aside hL
  have HDS := aside hds
  have HJQ := aside hlt
  clear hm hl hc hqn hown hmx hfn hL hds
  conv => arg 4; whnf
  have hj0 : (0 : Int) ≤ (j : Int) := by omega
  have hjl : (j : Int) < (q : Int) + 1 := by omega
  obtain ⟨c, hc⟩ : ∃ c, cutR r Ls q j = c := ⟨_, rfl⟩
  have HCJ := aside hc
  have HCC := aside (show c.chk = 0 from by rw [← hc]; exact cut_chk HM.out HC.out HQN.out HJQ.out)
  obtain ⟨d0, d1, d2⟩ := rg_at L1.out.rp hlt
  rw [hc] at d0 d1 d2
  have hwr : IntKind.i64.wrap ((j : Int) + 1) = (((j + 1 : Nat)) : Int) := by rw [IntKind.wrap_i64]; have h1 := HQN.out; have h2 := keysIn_le r Ls; have h3 := HL256.out; omega
  have NB := bnew X0 (.cells #[.string c.lo, .string c.hi, .bool c.op] 24)
  have L2 := aside (L1.out.on NB)
  have KC := aside (heap_alloc_new X0 (.cells #[.string c.lo, .string c.hi, .bool c.op] 24))
  obtain ⟨x0, x1, x2⟩ := box3r KC.out
  have CF := aside (qfold c.lo c.hi c.op L2.out.s.s L2.out.s.lan (by have := HL256.out; omega))
  rw [show Rg.chk (⟨c.lo, c.hi, c.op⟩ : Rg) = 0 from HCC.out] at CF
  obtain ⟨u, hu⟩ : ∃ u, foldV c.lo c.hi c.op Ls = u := ⟨_, rfl⟩
  have HU := aside hu
  rw [hu] at CF
  clear NB hu hc hlt
  gi_wp2_with fail
  refine ⟨trivial, ?_⟩
  refine (callsIn_wide.2 (CF.out)).mono ?_
  rintro e w11 ⟨rfl, s11, k11, -⟩
  have NB := bnew w11 (.cells #[.int .i64 u.n, .int .u64 u.a, .int .u64 u.b] 40)
  have L3 := aside ((L2.out.turn s11 k11).on NB)
  have KU := aside (heap_alloc_new w11 (.cells #[.int .i64 u.n, .int .u64 u.a, .int .u64 u.b] 40))
  replace KC := aside (blk_on (blk_keep KC.out k11 (L2.out.s.s.not KC.out (by decide) (by decide) (by decide))) NB)
  obtain ⟨ub, hub⟩ : ∃ ub, w11.heap.size = ub := ⟨_, rfl⟩
  have HUB := aside hub
  obtain ⟨w12, hw12⟩ : ∃ w12, w11.alloc (.cells #[.int .i64 u.n, .int .u64 u.a, .int .u64 u.b] 40) = w12 := ⟨_, rfl⟩
  rw [hub] at KU
  rw [hw12] at L3 KU KC
  clear s11 k11 CF L2 NB x0 x1 x2 d0 d1 d2 L1
  obtain ⟨x0, x1, x2⟩ := box3r KC.out
  gi_wp2_with fail
  refine ⟨trivial, ?_⟩
  refine (callsIn_wide.2 (qall c.lo c.hi c.op L3.out.s.s (by have := HL256.out; omega))).mono ?_
  rintro e w13 ⟨b13, ⟨h0, -⟩ | ⟨-, lb2, rfl, hsq⟩⟩
  · exact absurd HCC.out h0
  have L4 := aside (L3.out.on b13)
  replace KU := aside (blk_on KU.out b13)
  have HSQ := aside hsq
  clear b13 hsq L3 KC x0 x1 x2 hub hw12
  obtain ⟨KN, hkn⟩ : ∃ KN, (keysIn r Ls).length = KN := ⟨_, rfl⟩
  obtain ⟨U, hU⟩ : ∃ U, atS r Ls q (j + 1) - atS r Ls q j = U := ⟨_, rfl⟩
  have hun : u.n = (U : Int) := by rw [← HU.out, ← hU, ← HCJ.out]; exact cut_num HM.out HL256.out HC.out HQN.out HJQ.out
  have hev := cut_even r Ls q j
  rw [hkn, hU] at hev
  have hu1 : 1 ≤ U := by rw [← hU]; have := atS_up (r := r) (Ls := Ls) HQN.out j; omega
  have hkb : KN ≤ 256 ∧ q + 1 ≤ KN := ⟨by rw [← hkn]; exact Nat.le_trans (keysIn_le r Ls) HL256.out, by rw [← hkn]; exact HQN.out⟩
  obtain ⟨DQ, hdq⟩ : ∃ DQ, KN / (q + 1) = DQ := ⟨_, rfl⟩
  obtain ⟨CQ, hcq⟩ : ∃ CQ, (KN + q) / (q + 1) = CQ := ⟨_, rfl⟩
  rw [hdq, hcq] at hev
  have HQ1 := aside (show IntKind.i64.wrap ((KN : Int) / ((q : Int) + 1)) = (DQ : Int) from by rw [quo_natD KN q (by omega), hdq])
  have HQ2 := aside (show IntKind.i64.wrap ((IntKind.i64.wrap (IntKind.i64.wrap ((KN : Int) + ((q : Int) + 1)) - 1)).tdiv ((q : Int) + 1)) = (CQ : Int) from by rw [quo_up KN q hkb.1 hkb.2, hcq])
  have HU1 := aside (show DQ ≤ U from hev.1)
  have HU2 := aside (show U ≤ CQ from hev.2)
  have HU3 := aside hu1
  have K0 := aside (show w13.drew.cell? ⟨kt, 0, none⟩ = some (.int .i64 (KN : Int)) from by rw [← hkn, ← HFN.out]; exact (box3r (blk_on L4.out.bt (Below.refl _ w13).drew)).1)
  have U0 := aside (show w13.drew.cell? ⟨ub, 0, none⟩ = some (.int .i64 (U : Int)) from by rw [← hun]; exact (box3r (blk_on KU.out (Below.refl _ w13).drew)).1)
  clear hkn hU hun hev hu1 hkb hdq hcq
  gi_wp2_with fail
  refine wpIn_wide.2 (wp_calm ?_)
  refine sf_reg35 (by rfl) rfl rfl rfl rfl rfl rfl U0.out K0.out HQ1.out HQ2.out HU1.out HU2.out HU3.out ?_
  intro a1 hd1 hs1 h183 hsame
  have t2 : a1.tmps[2]? = some (.int .i64 ((q : Int) + 1)) := (hsame 2 (by decide)).trans rfl
  have t6 : a1.tmps[6]? = some (.pointer (some ⟨qb, 0, none⟩)) := (hsame 6 (by decide)).trans rfl
  have t7 : a1.tmps[7]? = some (.pointer (some ⟨sb, 0, none⟩)) := (hsame 7 (by decide)).trans rfl
  have t11 : a1.tmps[11]? = some (.pointer (some ⟨kt, 0, none⟩)) := (hsame 11 (by decide)).trans rfl
  have t17 : a1.tmps[17]? = some (.pointer (some ⟨ob, 0, none⟩)) := (hsame 17 (by decide)).trans rfl
  have t19 : a1.tmps[19]? = some (.pointer (some ⟨smb, 0, none⟩)) := (hsame 19 (by decide)).trans rfl
  have t20 : a1.tmps[20]? = some (.pointer (some ⟨atb, 0, none⟩)) := (hsame 20 (by decide)).trans rfl
  have t23 : a1.tmps[23]? = some (.pointer (some ⟨ub, 0, none⟩)) := (hsame 23 (by decide)).trans rfl
  have t25 : a1.tmps[25]? = some (.func (.func 70) #[] lb2) := (hsame 25 (by decide)).trans rfl
  have t134 : a1.tmps[134]? = some (.slice (some ⟨gp, 0, none⟩) (q + 1) cp) := (hsame 134 (by decide)).trans rfl
  have t135 : a1.tmps[135]? = some (.int .i64 ((q : Int) + 1)) := (hsame 135 (by decide)).trans rfl
  have t136 : a1.tmps[136]? = some (.int .i64 (j : Int)) := (hsame 136 (by decide)).trans rfl
  replace hd1 : a1.defers = Ds.map (fun D => ({ target := .collected D, args := #[] } : Deferred)) := hd1
  clear hsame
  obtain ⟨tm1, df1⟩ := a1
  obtain ⟨h, hf⟩ := lit213 tm1 hs1
  dsimp only at hd1 h183 t2 t6 t7 t11 t17 t19 t20 t23 t25 t134 t135 t136
  subst hf hd1
  rw [show h 2 = _ from Option.some.inj t2, show h 6 = _ from Option.some.inj t6, show h 7 = _ from Option.some.inj t7, show h 11 = _ from Option.some.inj t11, show h 17 = _ from Option.some.inj t17, show h 19 = _ from Option.some.inj t19, show h 20 = _ from Option.some.inj t20, show h 23 = _ from Option.some.inj t23, show h 25 = _ from Option.some.inj t25, show h 134 = _ from Option.some.inj t134, show h 135 = _ from Option.some.inj t135, show h 136 = _ from Option.some.inj t136, show h 183 = _ from Option.some.inj h183]
  clear h183 hs1 t2 t6 t7 t11 t17 t19 t20 t23 t25 t134 t135 t136
  obtain ⟨W5, hW5⟩ : ∃ W5, w13.drew = W5 := ⟨_, rfl⟩
  have B5 : Below w13.heap.size w13 W5 := by rw [← hW5]; exact (Below.refl _ w13).drew
  rw [hW5]
  have L5 := aside (L4.out.on B5)
  replace KU := aside (blk_on KU.out B5)
  replace HSQ := aside (HSQ.out.below B5)
  clear hW5 B5 L4 K0 U0 HQ1 HQ2 HU1 HU2 HU3
  gi_wp2_with fail
  obtain ⟨N, hN, hNl, hSq⟩ := HSQ.out
  obtain ⟨es, hes⟩ : ∃ es, inL c Ls = es := ⟨_, rfl⟩
  have HES := aside hes
  have HPT := aside (show ∀ pre x, (pre ++ [x]) <+: es → xs[atS r Ls q j + pre.length]? = some x from fun pre x h => by rw [← HOWN.out]; exact part_in HM.out HC.out HQN.out HJQ.out (by rw [HCJ.out, HES.out]; exact h))
  have HPL := aside (show atS r Ls q j + es.length = atS r Ls q (j + 1) from by rw [← HES.out, ← HCJ.out]; exact part_len HM.out HC.out HQN.out HJQ.out)
  have HSS := aside (show tJoin (sumQ r Ls q j) u = sumQ r Ls q (j + 1) from by rw [← HU.out, ← HCJ.out]; exact sumQ_step HM.out HC.out HQN.out HJQ.out)
  rw [show thruL c.lo c.hi c.op true Ls = es from by rw [inL_thruS (r := c) HCC.out HM.out, hes]] at hSq
  obtain ⟨a0, ha0⟩ : ∃ a0, atS r Ls q j = a0 := ⟨_, rfl⟩
  obtain ⟨sj, hsj⟩ : ∃ sj, sumQ r Ls q j = sj := ⟨_, rfl⟩
  rw [ha0] at L5 HPT HPL
  rw [hsj] at L5 HSS
  have HBO := aside (lt_of_blk KU.out)
  clear hN hNl HSQ hes ha0 hsj
  have ownI : OwnFrom W5.heap.size (fun (pre : List En) (Y : World) => Y.heap[atb]? = some (.cells #[.int .i64 ((a0 + pre.length : Nat) : Int)] 3 (0, 0)) ∧ Keeps (fun x => x = atb) W5 Y) := fun s A Y row hs hg hr => ⟨cells_own hs.1 hg (fun r e => (hr r e).2), hs.2.grown hg (fun k e hk => by have := (hr k e).1; omega)⟩
  refine rangeO rfl (enters_of Tryd.func70 (by kernel_rfl) rfl) hSq KpT.t (fun W l o o' _ h ho => KpT.b W l o o' h ho) (Below.refl _ _) (fun _ => rfl)
    (fun (pre : List En) (Y : World) => Y.heap[atb]? = some (.cells #[.int .i64 ((a0 + pre.length : Nat) : Int)] 3 (0, 0)) ∧ Keeps (fun x => x = atb) W5 Y) (fun (c : Code) (pre : List En) (_ : World) => c = .ret ∧ ¬ pre <+: es) ownI (fun c s A Y row hs hg hr => hs) ⟨L5.out.ba, Keeps.refl _ _⟩
    (fun (x : En) (a' : Act) (Y : World) => a'.defers = [] ∧ a'.tmps.size = 213 ∧ a'.tmps[6]? = some (.pointer (some ⟨qb, 0, none⟩)) ∧ a'.tmps[17]? = some (.pointer (some ⟨ob, 0, none⟩)) ∧ a'.tmps[20]? = some (.pointer (some ⟨atb, 0, none⟩)) ∧ ∃ eb : Nat, a'.tmps[27]? = some (.pointer (some ⟨eb, 0, none⟩)) ∧ Y.heap[eb]? = some (.cells #[.string x.k, .int .i64 x.c, .int .i64 x.n, .string x.v, .bool x.d] 33 (0, 0)))
    (fun x a' _ A Y row hs hg hr => by
      obtain ⟨h1, h2, h3, h4, h5, eb, h6, h7⟩ := hs
      exact ⟨h1, h2, h3, h4, h5, eb, h6, cells_own h7 hg (fun r e => (hr r e).2)⟩) ?assign ?body ?done ?stop
  case assign =>
    intro l' pre x X K hi hK
    dsimp only [encE]
    gi_wp2
    refine hK _ _ ?_ ?_ ?_ ⟨rfl, rfl, rfl, rfl, rfl, _, rfl, heap_alloc_new X _⟩
    · exact KeepsFrom.of_grownBy (World.grownBy_alloc X _ none) (fun j e => by cases e)
    · exact (KpT.refl X).alloc _
    · exact ownI.alloc _ hi
  case body =>
    intro l' pre x a' X hI hA hlen
    exact sf_body (by rfl) L5.out HMX.out.1 HMX.out.2.1 HPT.out hI hA
  case stop =>
    rintro D2 cc pre X hD2 hpre hix hK2
    exact absurd hpre hix.2
  case done =>
    rintro D2 ys W6 hD2 rfl ⟨hat6, hk6⟩ hK6
    have hnd : D2 ∉ Ds := fun h => by have h1 := lt_of_blk (L5.out.ds D2 h).2; omega
    have hw2 : w.heap.size ≤ D2 := Nat.le_trans L5.out.s.bel.size hD2
    have L6 := aside ((L5.out.setAt hat6 hk6).push (Y := W6) hw2 hK6 hnd)
    rw [HPL.out] at L6
    have KU6 := aside (blk_keep KU.out hk6 (fun e => by have e' : ub = atb := e; have h9 := KU.out; rw [e', L5.out.ba] at h9; simp at h9))
    obtain ⟨s0, s1, s2⟩ := box3r L6.out.bs
    obtain ⟨v0, v1, v2⟩ := box3r KU6.out
    have C8 := aside (fun W => join_any sj.n sj.a sj.b u.n u.a u.b W)
    rw [tJoin_n, tJoin_a, tJoin_b, HSS.out] at C8
    obtain ⟨sn, hsn⟩ : ∃ sn, sumQ r Ls q (j + 1) = sn := ⟨_, rfl⟩
    have HSN := aside hsn
    rw [hsn] at C8
    clear hnd hw2 hat6 hk6 hK6 hD2 hsn
    gi_wp2_with fail
    refine ⟨trivial, ?_⟩
    refine (callsIn_wide.2 (C8.out _)).mono ?_
    rintro e w14 ⟨rfl, b14⟩
    have L7 := aside (L6.out.on b14)
    clear b14 L6 KU6 C8 s0 s1 s2 v0 v1 v2
    obtain ⟨s0, s1, s2⟩ := box3r L7.out.bs
    have y0 := frozen_of_row _ _ 0 _ _ L7.out.bs
    have y1 := frozen_of_row _ _ 1 _ _ L7.out.bs
    have y2 := frozen_of_row _ _ 2 _ _ L7.out.bs
    gi_wp2
    have kz := (heap_setCell_same _ smb 2 _ _ (.int .u64 sn.b) (heap_setCell_same _ smb 1 _ _ (.int .u64 sn.a) (heap_setCell_same _ smb 0 _ _ (.int .i64 sn.n) L7.out.bs)))
    have kk := ((((Keeps.refl (fun x => x = smb) w14).setCell (p := ⟨smb, 0, none⟩) (fun _ => rfl) (.int .i64 sn.n)).setCell (p := ⟨smb, 1, none⟩) (fun _ => rfl) (.int .u64 sn.a)).setCell (p := ⟨smb, 2, none⟩) (fun _ => rfl) (.int .u64 sn.b))
    simp only [List.setIfInBounds_toArray, List.set_cons_zero, List.set_cons_succ] at kz
    have L8 := L7.out.setSm kz kk
    refine ⟨⟨j + 1, D2 :: Ds, by have := HJQ.out; omega, by rw [List.length_cons, HDS.out], ⟨rfl, rfl, rfl, rfl, rfl, rfl, rfl, rfl, rfl, rfl, rfl⟩, rfl, by rw [HSN.out]; exact L8⟩, ?_⟩
    rw [List.length_cons, List.length_map, HDS.out]
    have := HJQ.out
    omega
end Go.Proofs.YtoflalflacopdaaDoor

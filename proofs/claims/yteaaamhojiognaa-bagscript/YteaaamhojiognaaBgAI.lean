/-
  The code's iterator over a bag.
-/
import Derived.Test.YteaaamhojiognaaBgZ
import Derived.Laws.EntriesVeiled
import Derived.Stop.RegionWithIn
namespace Go.Proofs.Yteaaamhojiognaa
open Go.RowKit Go.Shelf
set_option linter.unusedVariables false

attribute [local go_sem] Oper.semAt_some
/-- What is known of a packet as it comes: which one it is, and its bytes are new. -/
def OkO (l : List Pk) (B : Nat) (pre : List (Nat × Pk)) (x : Nat × Pk) (W : World) : Prop := (∃ p, l[pre.length]? = some p ∧ x.1 = pre.length ∧ Pk.pl x.2 = Pk.pl p) ∧ Dat B W x.2
theorem cells_ownB {A B : World} {row : Option Nat} {i : Nat} {cs : Array Value} {T : TypeId} (h : A.heap[i]? = some (.cells cs T (0, 0))) (hg : A.grownBy B row) (hr : ∀ r, row = some r → ∃ o : Obj, A.heap[r]? = some o ∧ o.isCells = false) : B.heap[i]? = some (.cells cs T (0, 0)) := (grownBy_keeps_cells hg hr h rfl).trans h
theorem Dat.own {C : Nat} {A B : World} {row : Option Nat} {p : Pk} (h : Dat C A p) (hg : A.grownBy B row) (hr : ∀ r, row = some r → ∃ o : Obj, A.heap[r]? = some o ∧ o.isCells = false) : Dat C B p := by
  refine ⟨⟨h.1.1, ?_⟩, h.2⟩
  rcases h.1.2 with h0 | ⟨g, cap, cur, h1, h2, h3, h4⟩
  · exact .inl h0
  · exact .inr ⟨g, cap, cur, h1, h2, cells_ownB h3 hg hr, h4⟩
theorem idxP_split {l : List Pk} {ip r : List (Nat × Pk)} {x : Nat × Pk} (h : ip ++ x :: r = idxP l) : l[ip.length]? = some x.2 ∧ x.1 = ip.length := by
  have h1 : (idxP l)[ip.length]? = some x := by rw [← h]; simp
  unfold idxP at h1
  obtain ⟨h2, h3⟩ := List.getElem?_zip_eq_some.1 h1
  obtain ⟨h4, h5⟩ := List.getElem?_eq_some_iff.1 h2
  exact ⟨h3, by simpa using h5.symm⟩
def wentC (l : List Pk) (B : Nat) (J Jx : List (Nat × Pk) → World → Prop) (xs : List (Nat × Pk)) (W : World) (q : Bool) (W' : World) : Prop := KeepsFrom B W W' ∧ ((q = true ∧ J xs W' ∧ KpB l W W') ∨ (q = false ∧ Jx xs W'))
set_option maxHeartbeats 3200000 in
theorem sall_any (a : Option Addr) (n c : Nat) (w : World) : Calls Try.prog 35 #[.slice a n c] w fun e w' => ∃ d, e = .returned (.func (.func 38) #[] #[.pointer (some ⟨d, 0, none⟩)]) ∧ w'.heap[d]? = some (.cells #[.slice a n c] 48 (0, 0)) ∧ Below w.heap.size w w' := by
  have K := aside (heap_alloc_new w (.cells #[.slice a n c] 48))
  go_enter Try.func35, Try.ntmps35
  go_wp2
  go_ret
  exact ⟨_, rfl, K.out, bnew w _⟩
set_option maxHeartbeats 16000000 in
set_option maxRecDepth 100000 in
theorem ball_seq {u : Nat} {a : Option Addr} {n c : Nat} {l : List Pk} {w : World} (hb : w.heap[u]? = some (.cells #[.slice a n c] 48 (0, 0))) (hS : PkRow w a n c l) (hD : ∀ p ∈ l, Dat 0 w p) : SeqY Try.prog 34 #[.pointer (some ⟨u, 0, none⟩)] encP (KpB l) (OkO l w.heap.size) (fun ys => ys.length = l.length) (fun pre => pre.length ≤ l.length) l.length w := by
  intro m i0 J Jx W hW hJ hJx hY h0
  have b1 := bnew W (.cells #[.func (.yield i0) #[] #[]] 68)
  have yb0 := heap_alloc_new W (.cells #[.func (.yield i0) #[] #[]] 68)
  have c0 := cell_one (blk_on (blk_on hb hW) b1)
  obtain ⟨yb, hyb⟩ : ∃ y, W.heap.size = y := ⟨_, rfl⟩
  have HYB := aside hyb
  rw [hyb] at yb0
  have BW := aside (bthen hW b1)
  have J0 := aside (hJ.alloc (.cells #[.func (.yield i0) #[] #[]] 68) h0)
  have YV := aside yb0
  have HYY := aside hY
  have RV := aside (hS.on (bthen hW b1))
  have DV := aside (show ∀ p ∈ l, Dat 0 (W.alloc (.cells #[.func (.yield i0) #[] #[]] 68)) p from fun p hp => (hD p hp).on (bthen hW b1))
  have HLN := aside hS.1
  have HDL := aside (show ∀ p ∈ l, p.dl ≤ 65536 from fun p hp => (hD p hp).2)
  clear hb hS hD b1 yb0 hY h0
  refine (callsIn_wide (n := m + 3)).1 ?_
  refine callsIn_of_wp_marks Try.func34 rfl trivial ?_ rfl
  simp only [Try.ntmps34, List.size_toArray, List.length_cons, List.length_nil, Nat.reduceAdd, Nat.reduceSub, Array.replicate_succ, Array.replicate_zero, List.push_toArray, List.append_toArray, List.nil_append, List.cons_append]
  gi_wp2_with fail
  have VS := aside (show yb + 1 = (W.alloc (.cells #[.func (.yield i0) #[] #[]] 68)).heap.size from by rw [World.size_alloc, hyb])
  have HJ := aside hJ
  have HJx := aside hJx
  have HWS := aside (show w.heap.size ≤ yb from by rw [← hyb]; exact hW.size)
  try rw [hyb]
  clear hJ hJx hW hyb
  generalize W.alloc (.cells #[.func (.yield i0) #[] #[]] 68) = V at *
  have HSA := aside (sall_any a n c V)
  refine ⟨trivial, (callsIn_wide.2 HSA.out).mono ?_⟩
  rintro e V2 ⟨d, rfl, kd, bd⟩
  have KD := aside kd
  have BD := aside bd
  replace RV := aside (RV.out.on bd)
  replace DV := aside (show ∀ p ∈ l, Dat 0 V2 p from fun p hp => (DV.out p hp).on bd)
  replace YV := aside (blk_on YV.out bd)
  have J2 := aside (HJ.out [] V V2 none J0.out (grown_belowB bd) (fun r e => by cases e))
  have BW2 := aside (bthen BW.out bd)
  have VS2 := aside (show yb + 1 ≤ V2.heap.size from by rw [VS.out]; exact bd.size)
  have B2W := aside (show w.heap.size ≤ V2.heap.size from BW2.out.size)
  clear kd bd c0 J0 HSA
  gi_wp2_with fail
  clear BW BD VS
  have ownI : OwnFrom V2.heap.size (fun (ip : List (Nat × Pk)) X => (∃ op : List (Nat × Pk), op.length = ip.length ∧ J op X) ∧ X.heap[yb]? = some (.cells #[.func (.yield i0) #[] #[]] 68 (0, 0)) ∧ (∀ p ∈ l, Dat 0 X p) ∧ w.heap.size ≤ X.heap.size) := fun s A Y row hs hg hr =>
    have hr' : ∀ r, row = some r → ∃ o : Obj, A.heap[r]? = some o ∧ o.isCells = false := fun r e => (hr r e).2
    ⟨hs.1.imp fun op h => ⟨h.1, HJ.out op A Y row h.2 hg (fun r e => ⟨by have := (hr r e).1; have := VS2.out; have := HYB.out; omega, (hr r e).2⟩)⟩, cells_ownB hs.2.1 hg hr', fun p hp => (hs.2.2.1 p hp).own hg hr', Nat.le_trans hs.2.2.2 hg.size⟩
  refine rangeY rfl (enters_of Try.func38 (by kernel_rfl) rfl) (sall_seq KD.out RV.out) KpB.t (fun W l o o' _ h ho => KpB.b W l o o' h ho) (Below.refl _ _) (fun _ => rfl)
    (fun (ip : List (Nat × Pk)) X => (∃ op : List (Nat × Pk), op.length = ip.length ∧ J op X) ∧ X.heap[yb]? = some (.cells #[.func (.yield i0) #[] #[]] 68 (0, 0)) ∧ (∀ p ∈ l, Dat 0 X p) ∧ w.heap.size ≤ X.heap.size)
    (fun cd ip X => cd = .ret ∧ ∃ op : List (Nat × Pk), op.length ≤ l.length ∧ Jx op X) ownI (fun cd s A Y row hs hg hr => ⟨hs.1, hs.2.imp fun op h => ⟨h.1, HJx.out op A Y row h.2 hg (fun r e => ⟨by have := (hr r e).1; have := VS2.out; have := HYB.out; omega, (hr r e).2⟩)⟩⟩) ⟨⟨[], rfl, J2.out⟩, YV.out, DV.out, B2W.out⟩
    (fun ip x a' X => ∃ eb : Nat, a' = ⟨#[.func (.yield i0) #[] #[], .pointer (some ⟨u, 0, none⟩), .pointer (some ⟨yb, 0, none⟩), .int .i64 (x.1 : Int), .pointer (some ⟨eb, 0, none⟩), .slice a n c, .func (.func 38) #[] #[.pointer (some ⟨d, 0, none⟩)], .int .i64 (x.1 : Int), x.2.v, undef, undef, undef, undef, undef, undef], []⟩ ∧ X.heap[eb]? = some (.cells #[.int .i64 x.2.num, .int .i64 x.2.frm, .int .i64 x.2.dst, .slice x.2.da x.2.dl x.2.dc] 39 (0, 0)) ∧ ∃ r, ip ++ x :: r = idxP l)
    (fun ip x a' _ A Y row hs hg hr => by
      obtain ⟨eb, h1, h2, h3⟩ := hs
      exact ⟨eb, h1, cells_ownB h2 hg (fun r e => (hr r e).2), h3⟩) ?assign ?body ?done ?stop
  case assign =>
    rintro l' ip x X K hok hi hK
    dsimp only [encP]
    obtain ⟨xi, num, frm, dst, da, dl, dc, L⟩ := x
    unfold Pk.v at *
    dsimp only at *
    gi_wp2
    have bb := bnew X (.cells #[.int .i64 num, .int .i64 frm, .int .i64 dst, .slice da dl dc] 39)
    exact hK _ _ (KeepsFrom.of_grownBy (grown_belowB bb) (fun j e => by cases e)) (KpB.bel bb) (ownI.alloc _ hi) ⟨X.heap.size, rfl, heap_alloc_new X _, hok⟩
  case body =>
    rintro l' ip ⟨xi, p⟩ a' X ⟨⟨op, hop, hj⟩, hyx, hdx, hbx⟩ ⟨eb, rfl, he, r9, hr9⟩ hlen
    have hg := idxP_split hr9
    have HOP := aside hop
    have HG := aside hg
    have HD := aside (hdx p (List.mem_of_getElem? hg.1))
    have HDX := aside hdx
    have HE := aside he
    have HYX := aside hyx
    have HJJ := aside hj
    have HBX := aside hbx
    have HLT := aside hlen
    obtain ⟨num, frm, dst, da, dl, dc, L⟩ := p
    unfold Pk.v at *
    dsimp only at he HE hg HD ⊢
    clear hop hj hyx hdx hbx he hr9 hlen hg
    have bd := (Below.refl X.heap.size X).drew
    obtain ⟨e0, e1, e2, e3⟩ := fourB (blk_on HE.out bd)
    have y0 := cell_one (blk_on HYX.out bd)
    have HA := aside (apart_any ⟨num, frm, dst, da, dl, dc, L⟩ X.drew (HD.out.on bd).byIn HD.out.2)
    have BX := aside bd
    unfold Pk.v at HA
    dsimp only at HA
    clear bd
    gi_wp2_with fail
    clear e0 e1 e2 e3 y0
    have bd := (Below.refl X.heap.size X).drew
    obtain ⟨e0, e1, e2, e3⟩ := fourB (blk_on HE.out bd)
    have y0 := cell_one (blk_on HYX.out bd)
    clear bd
    gi_region_with (first
      | (refine ⟨trivial, (CallsIn.inRound _ (callsIn_wide.2 HA.out)).mono ?_⟩
         rintro e w9 ⟨da', dc', rfl, hd9, b9⟩
         clear e0 e1 e2 e3 y0
         have B9 := aside (bthen BX.out b9)
         have y0 := cell_one (blk_on HYX.out B9.out)
         have D9 := aside hd9
         obtain ⟨fn, tmps, assign, body, hy, hR⟩ := HYY.out op (xi, ⟨num, frm, dst, da', dl, dc', L⟩) w9 ⟨⟨⟨num, frm, dst, da, dl, dc, L⟩, by rw [HOP.out]; exact HG.out.1, by rw [HOP.out]; exact HG.out.2, rfl⟩, D9.out.low (Nat.le_trans HBX.out BX.out.size)⟩ (HJ.out op X w9 none HJJ.out (grown_belowB B9.out) (fun r e => by cases e)) (by have h1 := HLT.out; have h2 := HOP.out; omega)
         dsimp only [encP, Pk.v] at hy
         have hQ := hR.mono (R' := fun e W' => ∃ q : Bool, e = .returned (.bool q) ∧ Hid (wentC l W.heap.size J Jx (op ++ [(xi, ⟨num, frm, dst, da', dl, dc', L⟩)]) w9 q W')) (fun e W' h => by
           rcases h with ⟨kf, ⟨rfl, h1, h2⟩ | ⟨rfl, h1⟩⟩
           · exact ⟨true, rfl, kf, .inl ⟨rfl, h1, h2⟩⟩
           · exact ⟨false, rfl, kf, .inr ⟨rfl, h1⟩⟩)
         have HQ := aside hQ
         clear hR hQ hd9 b9)
      | (refine HQ.out.mono ?_
         rintro e X3 ⟨q9, rfl, hq9⟩
         clear hy y0))
    all_goals
      rcases hq9.out with ⟨kf, ⟨rfl, hj3, kp3⟩ | ⟨rfl, hx3⟩⟩
      · have KF := aside ((KeepsFrom.of_grownBy (B := V2.heap.size) (grown_belowB B9.out) (fun j e => by cases e)).trans (keepsFrom_up kf (show W.heap.size ≤ V2.heap.size from by have h1 := VS2.out; have h2 := HYB.out; omega)))
        have KP := aside ((KpB.bel B9.out).t kp3)
        have J3 := aside hj3
        clear kf kp3 hj3 hq9 HQ
        gi_wp2
        exact ⟨KF.out, KP.out, ⟨_, by rw [List.length_append, List.length_append, HOP.out]; rfl, J3.out⟩, KP.out.2.2.1 _ _ HYX.out, KP.out.2.2.2 HDX.out, Nat.le_trans HBX.out KF.out.size⟩
      · have KF := aside ((KeepsFrom.of_grownBy (B := V2.heap.size) (grown_belowB B9.out) (fun j e => by cases e)).trans (keepsFrom_up kf (show W.heap.size ≤ V2.heap.size from by have h1 := VS2.out; have h2 := HYB.out; omega)))
        have X3' := aside hx3
        clear kf hx3 hq9 HQ
        gi_wp2
        exact ⟨KF.out, rfl, _, by rw [List.length_append, HOP.out]; exact HLT.out, X3'.out⟩
  case done =>
    rintro D xs X hD rfl ⟨⟨op, hop, hj⟩, -, -, -⟩ hK
    have FIN := aside (HJ.out.putObj (.deferred none) hj (by have h1 := VS2.out; have h2 := HYB.out; omega) hK rfl)
    have HOP := aside hop
    clear hj hop
    gi_wp2
    refine ⟨by simp, .inl ⟨_, _, rfl, run_takeDeferred hK, ?_⟩⟩
    exact ⟨_, results_none rfl _ _ _, ⟨_, rfl⟩, .inl ⟨op, by rw [HOP.out, idxP_len], FIN.out⟩⟩
  case stop =>
    rintro D c pre X hD hp ⟨rfl, op, hop, hj⟩ hK
    have FIN := aside (HJx.out.putObj (.deferred none) hj (by have h1 := VS2.out; have h2 := HYB.out; omega) hK rfl)
    have HOP := aside hop
    clear hj hop
    gi_wp2
    refine ⟨by simp, .inl ⟨_, _, rfl, run_takeDeferred hK, ?_⟩⟩
    exact ⟨_, results_none rfl _ _ _, ⟨_, rfl⟩, .inr ⟨op, HOP.out, FIN.out⟩⟩
end Go.Proofs.Yteaaamhojiognaa

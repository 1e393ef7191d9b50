/-
  Scan and All: an iterator over entries that goes over the one of the tree.
  Scan and All; all that a store holds.
  held: all that a store holds, as a list of its own.
  Entries and versions compared.
-/
import Derived.Test.YtlbkcndmljlnmaaDoorBx21
import Derived.Test.YtlbkcndmljlnmaaDoorBx17
import Derived.Test.YtlbkcndmljlnmaaDoorBx18
import Derived.Test.YtlbkcndmljlnmaaDoorBx19
import Derived.Laws.EntriesVeiled
import Derived.OwnWalkIn
import Derived.RangeFuncBox
import Derived.Laws.StructEq
namespace Go.Proofs.YtlbkcndmljlnmaaDoor
open Go.RowKit Go.Shelf
set_option linter.unusedVariables false
attribute [local go_sem] Oper.semAt_some
/-- An entry, as it is handed out. -/
def encE (x : En) : Array Value := #[.agg #[.string x.k, .int .i64 x.c, .int .i64 x.n, .string x.v, .bool x.d]]
/-- What a round over such an iterator keeps: nodes, yields and bools that lay there. -/
def KpT (A B : World) : Prop := Stay 145 A B ∧ Stay 160 A B ∧ Stay 4 A B
theorem KpT.refl (A : World) : KpT A A := ⟨Stay.refl _ _, Stay.refl _ _, Stay.refl _ _⟩
theorem KpT.t {A B C : World} (h : KpT A B) (h2 : KpT B C) : KpT A C := ⟨h.1.trans h2.1, h.2.1.trans h2.2.1, h.2.2.trans h2.2.2⟩
theorem KpT.alloc {A B : World} (h : KpT A B) (o : Obj) : KpT A (B.alloc o) := ⟨h.1.alloc o, h.2.1.alloc o, h.2.2.alloc o⟩
theorem KpT.b (W : World) (l : Nat) (o o' : Obj) (h : W.heap[l]? = some o) (ho : o.isCells = false) : KpT W (W.putObj l o') := by
  have s : ∀ T, Stay T W (W.putObj l o') := fun T i cs e => by
    by_cases hi : i = l
    · subst hi; rw [h] at e; injection e with e; subst e; cases ho
    · exact (World.putObj_heap_other hi).trans e
  exact ⟨s _, s _, s _⟩
/-- The entries of rows; dead ones only if they are wanted. -/
def entsOf (dd : Bool) (l : List (Rw En Tl)) : List En := (l.map (·.v)).filter (fun e => dd || !e.d)
theorem entsOf_snoc (dd : Bool) (l : List (Rw En Tl)) (x : Rw En Tl) : entsOf dd (l ++ [x]) = entsOf dd l ++ (if dd || !x.v.d then [x.v] else []) := by
  unfold entsOf
  rw [List.map_append, List.filter_append]
  congr 1
  simp only [List.map_cons, List.map_nil]
  cases h : (dd || !x.v.d)
  · rw [List.filter_cons_of_neg (by simpa using h)]; simp
  · rw [List.filter_cons_of_pos (by simpa using h)]; simp
theorem entsOf_prefix {dd : Bool} {l m : List (Rw En Tl)} (h : l <+: m) : entsOf dd l <+: entsOf dd m := by
  obtain ⟨r, rfl⟩ := h
  unfold entsOf
  rw [List.map_append, List.filter_append]
  exact List.prefix_append _ _
theorem entsOf_length (dd : Bool) (l : List (Rw En Tl)) : (entsOf dd l).length ≤ l.length := by
  unfold entsOf
  exact Nat.le_trans (List.length_filter_le _ _) (by simp)
set_option maxHeartbeats 8000000 in
set_option maxRecDepth 100000 in
theorem thru1 {w : World} {hb db : Nat} {dd : Bool} {lbS : Array Value} {sg : List (Rw En Tl)} (hh : w.heap[hb]? = some (.cells #[.func (.func 109) #[] lbS] 158 (0, 0))) (hd : w.heap[db]? = some (.cells #[.bool dd] 4 (0, 0)))
    (hs : SeqO Tryd.prog 109 lbS encs2 KpT (fun ys => ys = sg) (fun q => q <+: sg) sg.length w) :
    SeqO Tryd.prog 92 #[.pointer (some ⟨hb, 0, none⟩), .pointer (some ⟨db, 0, none⟩)] encE KpT (fun ys => ys = entsOf dd sg) (fun q => q <+: entsOf dd sg) sg.length w := by
  intro m l J Jx W hW hJ hJx hY h0
  have hh' := blk_on hh hW
  have hd' := blk_on hd hW
  have b1 := bnew W (.cells #[.func (.yield l) #[] #[]] 160)
  have yb := heap_alloc_new W (.cells #[.func (.yield l) #[] #[]] 160)
  have c0 := cell_one (blk_on hh' b1)
  have BW := aside (bthen hW b1)
  have J0 := aside (hJ.alloc (.cells #[.func (.yield l) #[] #[]] 160) h0)
  have YV := aside yb
  have DV := aside (blk_on hd' b1)
  have HY := aside hY
  have HS := aside hs
  clear hh hd hs hh' hd' b1 yb hY h0
  refine (callsIn_wide (n := m + 3)).1 ?_
  refine callsIn_of_wp_marks Tryd.func92 rfl trivial ?_ rfl
  simp only [Tryd.ntmps92, List.size_toArray, List.length_cons, List.length_nil, Nat.reduceAdd, Nat.reduceSub, Array.replicate_succ, Array.replicate_zero, List.push_toArray, List.append_toArray, List.nil_append, List.cons_append]
  gi_wp2_with fail
  refine wpIn_wide.2 (wp_scope_straight ((wpIn_wide (n := m + 3)).1 ?_))
  refine wpIn_seq (wpIn_label ?_)
  gi_wp2_with fail
  have VS := aside (show W.heap.size + 1 = (W.alloc (.cells #[.func (.yield l) #[] #[]] 160)).heap.size from by simp)
  have HJ := aside hJ
  have HJx := aside hJx
  clear c0 hJ hJx hW
  generalize W.alloc (.cells #[.func (.yield l) #[] #[]] 160) = V at *
  have ownI : OwnFrom V.heap.size (fun (pre : List (Rw En Tl)) X => J (entsOf dd pre) X ∧ X.heap[W.heap.size]? = some (.cells #[.func (.yield l) #[] #[]] 160 (0, 0)) ∧ X.heap[db]? = some (.cells #[.bool dd] 4 (0, 0))) := fun s A B row hs hg hr =>
    have hr' : ∀ r, row = some r → ∃ o : Obj, A.heap[r]? = some o ∧ o.isCells = false := fun r e => (hr r e).2
    ⟨HJ.out _ A B row hs.1 hg (fun r e => ⟨by have := (hr r e).1; have := VS.out; omega, (hr r e).2⟩), cells_own hs.2.1 hg hr', cells_own hs.2.2 hg hr'⟩
  refine rangeO rfl (enters_of Tryd.func109 (by kernel_rfl) rfl) HS.out KpT.t (fun W l o o' _ h ho => KpT.b W l o o' h ho) BW.out (fun _ => rfl)
    (fun (pre : List (Rw En Tl)) X => J (entsOf dd pre) X ∧ X.heap[W.heap.size]? = some (.cells #[.func (.yield l) #[] #[]] 160 (0, 0)) ∧ X.heap[db]? = some (.cells #[.bool dd] 4 (0, 0)))
    (fun c pre X => c = .ret ∧ Jx (entsOf dd pre) X) ownI (fun c s A B row hs hg hr => ⟨hs.1, HJx.out _ A B row hs.2 hg (fun r e => ⟨by have := (hr r e).1; have := VS.out; omega, (hr r e).2⟩)⟩) ⟨J0.out, YV.out, DV.out⟩
    (fun x a' X => ∃ eb : Nat, a' = ⟨#[.func (.yield l) #[] #[], .pointer (some ⟨hb, 0, none⟩), .pointer (some ⟨db, 0, none⟩), .pointer (some ⟨W.heap.size, 0, none⟩), undef, .pointer (some ⟨eb, 0, none⟩), .func (.func 109) #[] lbS, .string x.k, .agg #[.string x.v.k, .int .i64 x.v.c, .int .i64 x.v.n, .string x.v.v, .bool x.v.d], undef, undef, undef, undef, undef, undef, undef, undef, undef, undef, undef, undef], []⟩ ∧ X.heap[eb]? = some (.cells #[.string x.v.k, .int .i64 x.v.c, .int .i64 x.v.n, .string x.v.v, .bool x.v.d] 44 (0, 0)))
    (fun x a' _ A B row hs hg hr => by
      obtain ⟨eb, h1, h2⟩ := hs
      exact ⟨eb, h1, cells_own h2 hg (fun r e => (hr r e).2)⟩) ?assign ?body ?done ?stop
  case assign =>
    intro l' pre x X K hi hK
    dsimp only [encs2]
    gi_wp2
    refine hK _ _ ?_ ?_ ?_ ⟨_, rfl, heap_alloc_new X _⟩
    · exact KeepsFrom.of_grownBy (World.grownBy_alloc X _ none) (fun j e => by cases e)
    · exact (KpT.refl X).alloc _
    · exact ownI.alloc _ hi
  case body =>
    rintro l' pre ⟨xk, ⟨vk, vc, vn, vv, vd⟩, xs⟩ a' X ⟨hj, hy, hd⟩ ⟨eb, rfl, he⟩ hlen
    dsimp only at he ⊢
    obtain ⟨e0, e1, e2, e3, e4, -⟩ := penta he
    have D0 := cell_one hd
    have Y0 := cell_one hy
    have HX := aside (show J (entsOf dd pre) X ∧ X.heap[W.heap.size]? = some (.cells #[.func (.yield l) #[] #[]] 160 (0, 0)) ∧ X.heap[db]? = some (.cells #[.bool dd] 4 (0, 0)) from ⟨hj, hy, hd⟩)
    have HLN := aside hlen
    have hsn := aside (entsOf_snoc dd pre ⟨xk, ⟨vk, vc, vn, vv, vd⟩, xs⟩)
    clear hj hy hd he hlen
    cases vd with
    | false =>
      rw [show (if dd || !(⟨xk, ⟨vk, vc, vn, vv, false⟩, xs⟩ : Rw En Tl).v.d then [(⟨xk, ⟨vk, vc, vn, vv, false⟩, xs⟩ : Rw En Tl).v] else []) = [⟨vk, vc, vn, vv, false⟩] from by simp] at hsn
      obtain ⟨fn, tmps, assign, body, hy, hR⟩ := HY.out (entsOf dd pre) ⟨vk, vc, vn, vv, false⟩ X HX.out.1 (Nat.lt_of_le_of_lt (entsOf_length _ _) HLN.out)
      dsimp only [encE] at hy
      have HR := aside hR
      clear hR
      gi_wp2_with fail
      refine HR.out.mono ?_
      rintro e X3 ⟨kf, ⟨rfl, hj3, kp3⟩ | ⟨rfl, hx3⟩⟩
      · have KF := aside (keepsFrom_up kf (show W.heap.size ≤ V.heap.size from by have := VS.out; omega))
        have KP := aside kp3
        have J3 := aside hj3
        clear kf kp3 hj3 hy
        gi_wp2
        exact ⟨KF.out, KP.out, by rw [hsn.out]; exact J3.out, KP.out.2.1 _ _ HX.out.2.1, KP.out.2.2 _ _ HX.out.2.2⟩
      · have KF := aside (keepsFrom_up kf (show W.heap.size ≤ V.heap.size from by have := VS.out; omega))
        have X3' := aside hx3
        clear kf hx3 hy
        gi_wp2
        exact ⟨KF.out, rfl, by rw [hsn.out]; exact X3'.out⟩
    | true =>
      cases dd with
      | true =>
        obtain ⟨fn, tmps, assign, body, hy, hR⟩ := HY.out (entsOf true pre) ⟨vk, vc, vn, vv, true⟩ X HX.out.1 (Nat.lt_of_le_of_lt (entsOf_length _ _) HLN.out)
        dsimp only [encE] at hy
        have HR := aside hR
        clear hR
        gi_wp2_with fail
        refine HR.out.mono ?_
        rintro e X3 ⟨kf, ⟨rfl, hj3, kp3⟩ | ⟨rfl, hx3⟩⟩
        · have KF := aside (keepsFrom_up kf (show W.heap.size ≤ V.heap.size from by have := VS.out; omega))
          have KP := aside kp3
          have J3 := aside hj3
          clear kf kp3 hj3 hy
          gi_wp2
          exact ⟨KF.out, KP.out, by rw [hsn.out]; exact J3.out, KP.out.2.1 _ _ HX.out.2.1, KP.out.2.2 _ _ HX.out.2.2⟩
        · have KF := aside (keepsFrom_up kf (show W.heap.size ≤ V.heap.size from by have := VS.out; omega))
          have X3' := aside hx3
          clear kf hx3 hy
          gi_wp2
          exact ⟨KF.out, rfl, by rw [hsn.out]; exact X3'.out⟩
      | false =>
        gi_wp2
        exact ⟨KeepsFrom.refl _ _, KpT.refl _, by rw [hsn.out]; simpa using HX.out.1, HX.out.2.1, HX.out.2.2⟩
  case done =>
    rintro D xs X hD rfl ⟨hj, hy, hd⟩ hK
    have FIN := aside (HJ.out.putObj (.deferred none) hj (by have := VS.out; omega) hK rfl)
    clear hj hy hd
    gi_wp2
    refine ⟨by simp, .inl ⟨_, _, rfl, run_takeDeferred hK, ?_⟩⟩
    exact ⟨_, results_none rfl _ _ _, ⟨_, rfl⟩, .inl ⟨_, rfl, FIN.out⟩⟩
  case stop =>
    rintro D c pre X hD hp ⟨rfl, hj⟩ hK
    have FIN := aside (HJx.out.putObj (.deferred none) hj (by have := VS.out; omega) hK rfl)
    clear hj
    gi_wp2
    refine ⟨by simp, .inl ⟨_, _, rfl, run_takeDeferred hK, ?_⟩⟩
    exact ⟨_, results_none rfl _ _ _, ⟨_, rfl⟩, .inr ⟨_, entsOf_prefix hp, FIN.out⟩⟩
end Go.Proofs.YtlbkcndmljlnmaaDoor
namespace Go.Proofs.YtlbkcndmljlnmaaDoor
open Go.RowKit Go.Shelf
set_option linter.unusedVariables false
attribute [local go_sem] Oper.semAt_some
/-- An iterator over the entries es. -/
def SeqE (w : World) (lb : Array Value) (es : List En) : Prop := ∃ N, N ≤ 1000000 ∧ es.length ≤ N ∧ SeqO Tryd.prog 92 lb encE KpT (fun ys => ys = es) (fun q => q <+: es) N w
/-- What is gone through: what is in the range, dead ones only if they are wanted. -/
def thruL (lo hi : ByteArray) (op dd : Bool) (Ls : List En) : List En := (Ls.filter (inR lo hi op)).filter (fun e => dd || !e.d)
theorem rows_thru {T : Tr En Tl} {Ls : List En} {lo hi : ByteArray} {op : Bool} (hH : Hol T Ls) (h : op = true ∨ kLt hi lo = false) (dd : Bool) : entsOf dd (spanL T (belE lo Ls : Int) (endE hi op Ls : Int)) = thruL lo hi op dd Ls := by
  unfold spanL entsOf thruL
  have h1 := belE_le lo Ls
  have h2 := endE_le hi op Ls
  rw [show (max (belE lo Ls : Int) 0).toNat = belE lo Ls from by omega, show (min (endE hi op Ls : Int) (T.cnt : Int)).toNat = endE hi op Ls from by rw [hH.cnt]; omega, hH.rows, seg_map, seg_range hH.rises h, List.map_map]
  congr 1
  exact List.map_id _
set_option maxHeartbeats 3200000 in
set_option maxRecDepth 100000 in
theorem sthru (lo hi : ByteArray) (op dd : Bool) {Ls : List En} {w : World} {sb g tb : Nat} {nd ck : Int} {T : Tr En Tl} {n : Nat} (h : IsSt w sb g tb nd ck T n) (hH : Hol T Ls) (hl : Ls.length ≤ 1000000) :
    Calls Tryd.prog 64 #[.pointer (some ⟨sb, 0, none⟩), .agg #[.string lo, .string hi, .bool op], .bool dd] w fun r w' => Below w.heap.size w w' ∧ ((Rg.chk ⟨lo, hi, op⟩ ≠ 0 ∧ r = .returned (.tuple #[.nilFunc, .int .i64 (Rg.chk ⟨lo, hi, op⟩)])) ∨ (Rg.chk ⟨lo, hi, op⟩ = 0 ∧ ∃ lb, r = .returned (.tuple #[.func (.func 92) #[] lb, .int .i64 0]) ∧ SeqE w' lb (thruL lo hi op dd Ls))) := by
  have hmf : ∀ (fn : Fn) (first cap : Array Value) (w : World), (Instr.makeFunc fn first cap).run Tryd.prog w = .ok (.func fn first cap) w := fun _ _ _ _ => rfl
  have b0 := bnew w (.cells #[.string lo, .string hi, .bool op] 51)
  have b1 := bnew (w.alloc (.cells #[.string lo, .string hi, .bool op] 51)) (.cells #[.bool dd] 4)
  have B := aside (bthen b0 b1)
  have G0 := aside (blk_on (heap_alloc_new w (.cells #[.string lo, .string hi, .bool op] 51)) b1)
  have g1 := heap_alloc_new (w.alloc (.cells #[.string lo, .string hi, .bool op] 51)) (.cells #[.bool dd] 4)
  simp only [World.size_alloc] at g1
  have G1 := aside g1
  have H := aside (h.below B.out)
  have C1 := aside (fun (W : World) => check_any lo hi op W)
  have CR := aside (fun (W : World) (h : IsSt W sb g tb nd ck T n) => srows lo hi op h hH hl)
  have HH := aside hH
  have HLE := aside hl
  obtain ⟨c, hc⟩ : ∃ c, Rg.chk ⟨lo, hi, op⟩ = c := ⟨_, rfl⟩
  rw [hc] at C1 ⊢
  have HC := aside hc
  clear h hH hl b0 b1 g1 hc
  obtain ⟨q0, q1, q2, -⟩ := tri G0.out
  by_cases h0 : c = 0
  · subst h0
    go_enter Tryd.func64, Tryd.ntmps64
    go_wp2_with fail
    refine (C1.out _).mono ?_
    rintro e w1 ⟨rfl, b1⟩
    have H1 := aside (H.out.below b1)
    have G1' := aside (blk_on G1.out b1)
    have B1 := aside (bthen B.out b1)
    obtain ⟨r0, r1, r2, -⟩ := tri (blk_on G0.out b1)
    clear b1 H G1 G0 B C1 q0 q1 q2
    go_wp2_with fail
    refine (CR.out _ H1.out).mono ?_
    rintro e w2 ⟨rfl, b2⟩
    have H2 := aside (H1.out.below b2)
    have G2 := aside (blk_on G1'.out b2)
    have B2 := aside (bthen B1.out b2)
    obtain ⟨-, -, -, c3, -⟩ := quad H2.out.blk
    clear b2 H1 G1' B1 CR r0 r1 r2
    go_wp2_with fail
    obtain ⟨p, ht, hT⟩ := H2.out.tree
    have HT := aside hT
    have CS := aside (yspan (belE lo Ls : Int) (endE hi op Ls : Int) ht)
    clear ht hT
    refine CS.out.mono ?_
    rintro e w3 ⟨lbS, rfl, hs, b3⟩
    have HS := aside hs
    have B3 := aside b3
    clear hs b3 CS c3
    go_wp2
    go_ret2
    have b4 := bnew w3 (.cells #[.func (.func 109) #[] lbS] 158)
    have hcn := HH.out.cnt
    have hT3 : IsTE w3 p T := HT.out.on (fun _ _ e => blk_on e B3.out)
    have hle := HLE.out
    have hsp : (spanL T (belE lo Ls : Int) (endE hi op Ls : Int)).length ≤ Ls.length := by
      unfold spanL seg
      have := Tr.rows_length T
      simp only [List.length_drop, List.length_take]
      omega
    have hq := thru1 (dd := dd) (hb := w3.heap.size) (db := w.heap.size + 1) (sg := spanL T (belE lo Ls : Int) (endE hi op Ls : Int)) (heap_alloc_new w3 (.cells #[.func (.func 109) #[] lbS] 158)) (blk_on (blk_on G2.out B3.out) b4)
      (SeqO.of_stops fun n => span1 (HS.out.below b4) (hT3.on (fun _ _ e => blk_on e b4)) (by omega) (by omega) (Nat.le_refl _) (fun A B h => h.1))
    rw [rows_thru HH.out (chk_may HC.out) dd] at hq
    refine ⟨bthen (bthen B2.out B3.out) b4, .inr ⟨by simp, _, rfl, (spanL T (belE lo Ls : Int) (endE hi op Ls : Int)).length, by omega, ?_, hq⟩⟩
    rw [← rows_thru HH.out (chk_may HC.out) dd]
    exact entsOf_length _ _
  · have h0' : (c == 0) = false := beq_eq_false_iff_ne.2 h0
    have HN := aside h0
    clear h0
    go_enter Tryd.func64, Tryd.ntmps64
    go_wp2_with fail
    refine (C1.out _).mono ?_
    rintro e w1 ⟨rfl, b1⟩
    have B1 := aside (bthen B.out b1)
    clear b1 H G1 G0 B C1 q0 q1 q2
    go_wp2
    go_ret2
    exact ⟨B1.out, .inl ⟨HN.out, rfl⟩⟩
set_option maxHeartbeats 3200000 in
set_option maxRecDepth 100000 in
theorem sall (lo hi : ByteArray) (op : Bool) {Ls : List En} {w : World} {sb g tb : Nat} {nd ck : Int} {T : Tr En Tl} {n : Nat} (h : IsSt w sb g tb nd ck T n) (hH : Hol T Ls) (hl : Ls.length ≤ 1000000) :
    Calls Tryd.prog 32 #[.pointer (some ⟨sb, 0, none⟩), .agg #[.string lo, .string hi, .bool op]] w fun r w' => Below w.heap.size w w' ∧ ((Rg.chk ⟨lo, hi, op⟩ ≠ 0 ∧ r = .returned (.tuple #[.nilFunc, .int .i64 (Rg.chk ⟨lo, hi, op⟩)])) ∨ (Rg.chk ⟨lo, hi, op⟩ = 0 ∧ ∃ lb, r = .returned (.tuple #[.func (.func 92) #[] lb, .int .i64 0]) ∧ SeqE w' lb (thruL lo hi op true Ls))) := by
  have b0 := bnew w (.cells #[.string lo, .string hi, .bool op] 51)
  have C := aside (sthru lo hi op true (h.below b0) hH hl)
  have B := aside b0
  obtain ⟨q0, q1, q2, -⟩ := tri (heap_alloc_new w (.cells #[.string lo, .string hi, .bool op] 51))
  clear h hH hl b0
  go_enter Tryd.func32, Tryd.ntmps32
  go_wp2_with fail
  refine C.out.mono ?_
  rintro r w1 ⟨b1, ⟨hc, rfl⟩ | ⟨hc, lb, rfl, hs⟩⟩
  · have B1 := aside (bthen B.out b1)
    have HC := aside hc
    clear b1 hc C q0 q1 q2
    go_wp2
    go_ret2
    exact ⟨B1.out, .inl ⟨HC.out, rfl⟩⟩
  · have B1 := aside (bthen B.out b1)
    have HC := aside hc
    have HS := aside hs
    clear b1 hc hs C q0 q1 q2
    go_wp2
    go_ret2
    exact ⟨B1.out, .inr ⟨HC.out, _, rfl, HS.out⟩⟩
theorem qall (lo hi : ByteArray) (op : Bool) {w : World} {sb g tb : Nat} {nd ck : Int} {Ls : List En} (h : Sto w sb g tb nd ck Ls) (hl : Ls.length ≤ 1000000) :
    Calls Tryd.prog 32 #[.pointer (some ⟨sb, 0, none⟩), .agg #[.string lo, .string hi, .bool op]] w fun r w' => Below w.heap.size w w' ∧ ((Rg.chk ⟨lo, hi, op⟩ ≠ 0 ∧ r = .returned (.tuple #[.nilFunc, .int .i64 (Rg.chk ⟨lo, hi, op⟩)])) ∨ (Rg.chk ⟨lo, hi, op⟩ = 0 ∧ ∃ lb, r = .returned (.tuple #[.func (.func 92) #[] lb, .int .i64 0]) ∧ SeqE w' lb (thruL lo hi op true Ls))) := by
  obtain ⟨T, n, h1, h2⟩ := h
  exact sall lo hi op h1 h2 hl
end Go.Proofs.YtlbkcndmljlnmaaDoor
namespace Go.Proofs.YtlbkcndmljlnmaaDoor
open Go.RowKit Go.Shelf
set_option linter.unusedVariables false
attribute [local go_sem] Oper.semAt_some
theorem kLt_none (x : ByteArray) : kLt x ⟨#[]⟩ = false := by
  have h : (⟨#[]⟩ : ByteArray).toList = [] := by kernel_rfl
  unfold kLt
  rw [h]
  cases x.toList <;> rfl
theorem thru_whole (Ls : List En) : thruL ⟨#[]⟩ ⟨#[]⟩ true true Ls = Ls := by
  unfold thruL
  rw [List.filter_eq_self.2 (fun e _ => Bool.true_or _)]
  exact List.filter_eq_self.2 (fun e _ => by simp [inR, kLt_none])
theorem chk_whole : Rg.chk ⟨⟨#[]⟩, ⟨#[]⟩, true⟩ = 0 := by kernel_rfl
theorem ownsRow_own {A B' : World} {row : Option Nat} {base : Nat} {e : TypeId} {size : Nat} {v : Value} {n : Nat} {xs : List Value} (h : A.ownsRow base e size v n xs) (hg : A.grownBy B' row) (hr : ∀ r, row = some r → ∃ o : Obj, A.heap[r]? = some o ∧ o.isCells = false) : B'.ownsRow base e size v n xs := by
  refine ⟨h.1, ?_⟩
  rcases h.2 with hn | ⟨g, cap, cur, rfl, hb, hgk, r⟩
  · exact .inl hn
  · exact .inr ⟨g, cap, cur, rfl, hb, cells_own hgk hg hr, r⟩
end Go.Proofs.YtlbkcndmljlnmaaDoor
namespace Go.Proofs.YtlbkcndmljlnmaaDoor
open Go.RowKit
set_option linter.unusedVariables false
/-- Are two entries the same? -/
def enEqB (a b : En) : Bool := (a.k.toList == b.k.toList) && ((a.c == b.c && a.n == b.n) && ((a.v.toList == b.v.toList) && (a.d == b.d)))
theorem enEqB_iff (a b : En) : enEqB a b = true ↔ a = b := by
  obtain ⟨k, c, n, v, d⟩ := a
  obtain ⟨k', c', n', v', d'⟩ := b
  simp only [enEqB, Bool.and_eq_true, beq_iff_eq, En.mk.injEq]
  constructor
  · rintro ⟨h1, ⟨h2, h3⟩, h4, h5⟩
    exact ⟨toList_inj h1, h2, h3, toList_inj h4, h5⟩
  · rintro ⟨rfl, rfl, rfl, rfl, rfl⟩
    exact ⟨rfl, ⟨rfl, rfl⟩, rfl, rfl⟩
theorem enEqB_same (a : En) : enEqB a a = true := (enEqB_iff a a).2 rfl
theorem ent_in (a b : En) (w : World) : (Op.equalIn 10000 44 (.agg #[.string a.k, .int .i64 a.c, .int .i64 a.n, .string a.v, .bool a.d]) (.agg #[.string b.k, .int .i64 b.c, .int .i64 b.n, .string b.v, .bool b.d])).run Tryd.prog w = .ok (enEqB a b) w := by
  unfold enEqB
  rw [show (10000 : Nat) = 9999 + 1 from rfl]
  cases h1 : (a.k.toList == b.k.toList) <;> by_cases h2 : a.c = b.c <;> by_cases h5 : a.n = b.n <;> cases h3 : (a.v.toList == b.v.toList) <;> cases h4 : (a.d == b.d)
  all_goals
    go_simp
    try simp [h2, h5]
theorem ent_eq (a b : En) (w : World) : (binOp .eql 44 (.agg #[.string a.k, .int .i64 a.c, .int .i64 a.n, .string a.v, .bool a.d]) (.agg #[.string b.k, .int .i64 b.c, .int .i64 b.n, .string b.v, .bool b.d])).run Tryd.prog w = .ok (.bool (enEqB a b)) w := by
  rw [run_eql_struct, ent_in]; rfl
end Go.Proofs.YtlbkcndmljlnmaaDoor

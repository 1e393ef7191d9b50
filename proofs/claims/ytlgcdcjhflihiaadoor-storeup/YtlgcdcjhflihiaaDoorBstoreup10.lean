/-
  Scan and All: an iterator over entries that goes over the one of the tree.
  New: a store that holds nothing.
  A store, as a law meets it: by the entries that it holds.
  A list of entries in memory.
  Rows of entries that a call owns: their cells, copies by append, one entry appended.
  Scan and All; all that a store holds.
  held: all that a store holds, as a list of its own.
  Entries and lists of entries that came in: from their reading to plain entries, with their sizes.
  Lists of numbers: that came in, and that are ours (grown, changed about).
  Entries and versions compared.
  The examples at the head of the statements on stores: they hold.
  Two stores side by side, as the law StoreTurned meets them.
-/
import Derived.Test.YtlgcdcjhflihiaaDoorBstoreup9
import Derived.Test.YtlgcdcjhflihiaaDoorBstoreup7
import Derived.Test.YtlgcdcjhflihiaaDoorBstoreup8
import Derived.Test.YtlgcdcjhflihiaaDoorBstoreup1
import Derived.OwnWalk
import Derived.Laws.OwnMore
import Derived.Laws.EntriesVeiled
import Derived.OwnWalkIn
import Derived.RangeFuncBox
import Derived.Maps.AppendAt
import Derived.Laws.StructEq
namespace Go.Proofs.YtlgcdcjhflihiaaDoor
open Go.RowKit Go.Shelf
set_option linter.unusedVariables false

attribute [local go_sem] Oper.semAt_some

/-- An entry, as it is handed out. -/
def encE (x : En) : Array Value := #[.agg #[.string x.k, .int .i64 x.c, .int .i64 x.n, .string x.v, .bool x.d]]

/-- What a round over such an iterator keeps: nodes, yields and bools that lay there. -/
def KpT (A B : World) : Prop := Stay 120 A B ∧ Stay 134 A B ∧ Stay 4 A B

theorem KpT.refl (A : World) : KpT A A := ⟨Stay.refl _ _, Stay.refl _ _, Stay.refl _ _⟩
theorem KpT.t {A B C : World} (h : KpT A B) (h2 : KpT B C) : KpT A C := ⟨h.1.trans h2.1, h.2.1.trans h2.2.1, h.2.2.trans h2.2.2⟩
theorem KpT.alloc {A B : World} (h : KpT A B) (o : Obj) : KpT A (B.alloc o) := ⟨h.1.alloc o, h.2.1.alloc o, h.2.2.alloc o⟩
theorem KpT.drew {A B : World} (h : KpT A B) : KpT A B.drew := ⟨h.1.drew, h.2.1.drew, h.2.2.drew⟩
theorem KpT.b (W : World) (l : Nat) (o o' : Obj) (h : W.heap[l]? = some o) (ho : o.isCells = false) : KpT W (W.putObj l o') := by
  have s : ∀ T, Stay T W (W.putObj l o') := fun T i cs e => by
    by_cases hi : i = l
    · subst hi; rw [h] at e; injection e with e; subst e; cases ho
    · exact (World.putObj_heap_other hi).trans e
  exact ⟨s _, s _, s _⟩

/-- The entries of rows; dead ones only if they are wanted. -/
def entsOf (dd : Bool) (l : List (Rw En Tl)) : List En := (l.map (·.v)).filter (fun e => dd || !e.d)

theorem entsOf_snoc (dd : Bool) (l : List (Rw En Tl)) (x : Rw En Tl) : entsOf dd (l ++ [x]) = entsOf dd l ++ (if dd || !x.v.d then [x.v] else []) := by
  unfold entsOf
  rw [List.map_append, List.filter_append]
  congr 1
  simp only [List.map_cons, List.map_nil]
  cases h : (dd || !x.v.d)
  · rw [List.filter_cons_of_neg (by simpa using h)]; simp
  · rw [List.filter_cons_of_pos (by simpa using h)]; simp
theorem entsOf_prefix {dd : Bool} {l m : List (Rw En Tl)} (h : l <+: m) : entsOf dd l <+: entsOf dd m := by
  obtain ⟨r, rfl⟩ := h
  unfold entsOf
  rw [List.map_append, List.filter_append]
  exact List.prefix_append _ _
theorem entsOf_length (dd : Bool) (l : List (Rw En Tl)) : (entsOf dd l).length ≤ l.length := by
  unfold entsOf
  exact Nat.le_trans (List.length_filter_le _ _) (by simp)

set_option maxHeartbeats 8000000 in
set_option maxRecDepth 100000 in
theorem thru1 {w : World} {hb db : Nat} {dd : Bool} {lbS : Array Value} {sg : List (Rw En Tl)} (hh : w.heap[hb]? = some (.cells #[.func (.func 58) #[] lbS] 94 (0, 0))) (hd : w.heap[db]? = some (.cells #[.bool dd] 4 (0, 0)))
    (hs : SeqO Tryd.prog 58 lbS encs2 KpT (fun ys => ys = sg) (fun q => q <+: sg) sg.length w) :
    SeqO Tryd.prog 69 #[.pointer (some ⟨hb, 0, none⟩), .pointer (some ⟨db, 0, none⟩)] encE KpT (fun ys => ys = entsOf dd sg) (fun q => q <+: entsOf dd sg) sg.length w := by
  intro m l J Jx W hW hJ hJx hY h0
  have hh' := blk_on hh hW
  have hd' := blk_on hd hW
  have b1 := bnew W (.cells #[.func (.yield l) #[] #[]] 134)
  have yb := heap_alloc_new W (.cells #[.func (.yield l) #[] #[]] 134)
  have c0 := cell_one (blk_on hh' b1)
  have BW := aside (bthen hW b1)
  have J0 := aside (hJ.alloc (.cells #[.func (.yield l) #[] #[]] 134) h0)
  have YV := aside yb
  have DV := aside (blk_on hd' b1)
  have HY := aside hY
  have HS := aside hs
  clear hh hd hs hh' hd' b1 yb hY h0
  refine (callsIn_wide (n := m + 3)).1 ?_
  refine callsIn_of_wp_marks Tryd.func69 rfl trivial ?_ rfl
  simp only [Tryd.ntmps69, List.size_toArray, List.length_cons, List.length_nil, Nat.reduceAdd, Nat.reduceSub, Array.replicate_succ, Array.replicate_zero, List.push_toArray, List.append_toArray, List.nil_append, List.cons_append]
  gi_wp2_with fail
  refine wpIn_wide.2 (wp_scope_straight ((wpIn_wide (n := m + 3)).1 ?_))
  refine wpIn_seq (wpIn_label ?_)
  gi_wp2_with fail
  have VS := aside (show W.heap.size + 1 = (W.alloc (.cells #[.func (.yield l) #[] #[]] 134)).heap.size from by simp)
  have HJ := aside hJ
  have HJx := aside hJx
  clear c0 hJ hJx hW
  generalize W.alloc (.cells #[.func (.yield l) #[] #[]] 134) = V at *
  have ownI : OwnFrom V.heap.size (fun (pre : List (Rw En Tl)) X => J (entsOf dd pre) X ∧ X.heap[W.heap.size]? = some (.cells #[.func (.yield l) #[] #[]] 134 (0, 0)) ∧ X.heap[db]? = some (.cells #[.bool dd] 4 (0, 0))) := fun s A B row hs hg hr =>
    have hr' : ∀ r, row = some r → ∃ o : Obj, A.heap[r]? = some o ∧ o.isCells = false := fun r e => (hr r e).2
    ⟨HJ.out _ A B row hs.1 hg (fun r e => ⟨by have := (hr r e).1; have := VS.out; omega, (hr r e).2⟩), cells_own hs.2.1 hg hr', cells_own hs.2.2 hg hr'⟩
  refine rangeO rfl (enters_of Tryd.func58 (by kernel_rfl) rfl) HS.out KpT.t (fun W l o o' _ h ho => KpT.b W l o o' h ho) BW.out (fun _ => rfl)
    (fun (pre : List (Rw En Tl)) X => J (entsOf dd pre) X ∧ X.heap[W.heap.size]? = some (.cells #[.func (.yield l) #[] #[]] 134 (0, 0)) ∧ X.heap[db]? = some (.cells #[.bool dd] 4 (0, 0)))
    (fun c pre X => c = .ret ∧ Jx (entsOf dd pre) X) ownI (fun c s A B row hs hg hr => ⟨hs.1, HJx.out _ A B row hs.2 hg (fun r e => ⟨by have := (hr r e).1; have := VS.out; omega, (hr r e).2⟩)⟩) ⟨J0.out, YV.out, DV.out⟩
    (fun x a' X => ∃ eb : Nat, a' = ⟨#[.func (.yield l) #[] #[], .pointer (some ⟨hb, 0, none⟩), .pointer (some ⟨db, 0, none⟩), .pointer (some ⟨W.heap.size, 0, none⟩), undef, .pointer (some ⟨eb, 0, none⟩), .func (.func 58) #[] lbS, .string x.k, .agg #[.string x.v.k, .int .i64 x.v.c, .int .i64 x.v.n, .string x.v.v, .bool x.v.d], undef, undef, undef, undef, undef, undef, undef, undef, undef, undef, undef, undef], []⟩ ∧ X.heap[eb]? = some (.cells #[.string x.v.k, .int .i64 x.v.c, .int .i64 x.v.n, .string x.v.v, .bool x.v.d] 39 (0, 0)))
    (fun x a' _ A B row hs hg hr => by
      obtain ⟨eb, h1, h2⟩ := hs
      exact ⟨eb, h1, cells_own h2 hg (fun r e => (hr r e).2)⟩) ?assign ?body ?done ?stop
  case assign =>
    intro l' pre x X K hi hK
    dsimp only [encs2]
    gi_wp2
    refine hK _ _ ?_ ?_ ?_ ⟨_, rfl, heap_alloc_new X _⟩
    · exact KeepsFrom.of_grownBy (World.grownBy_alloc X _ none) (fun j e => by cases e)
    · exact (KpT.refl X).alloc _
    · exact ownI.alloc _ hi
  case body =>
    rintro l' pre ⟨xk, ⟨vk, vc, vn, vv, vd⟩, xs⟩ a' X ⟨hj, hy, hd⟩ ⟨eb, rfl, he⟩ hlen
    dsimp only at he ⊢
    obtain ⟨e0, e1, e2, e3, e4, -⟩ := penta he
    have D0 := cell_one hd
    have Y0 := cell_one hy
    have HX := aside (show J (entsOf dd pre) X ∧ X.heap[W.heap.size]? = some (.cells #[.func (.yield l) #[] #[]] 134 (0, 0)) ∧ X.heap[db]? = some (.cells #[.bool dd] 4 (0, 0)) from ⟨hj, hy, hd⟩)
    have HLN := aside hlen
    have hsn := aside (entsOf_snoc dd pre ⟨xk, ⟨vk, vc, vn, vv, vd⟩, xs⟩)
    clear hj hy hd he hlen
    cases vd with
    | false =>
      rw [show (if dd || !(⟨xk, ⟨vk, vc, vn, vv, false⟩, xs⟩ : Rw En Tl).v.d then [(⟨xk, ⟨vk, vc, vn, vv, false⟩, xs⟩ : Rw En Tl).v] else []) = [⟨vk, vc, vn, vv, false⟩] from by simp] at hsn
      obtain ⟨fn, tmps, assign, body, hy, hR⟩ := HY.out (entsOf dd pre) ⟨vk, vc, vn, vv, false⟩ X HX.out.1 (Nat.lt_of_le_of_lt (entsOf_length _ _) HLN.out)
      dsimp only [encE] at hy
      have HR := aside hR
      clear hR
      gi_wp2_with fail
      refine HR.out.mono ?_
      rintro e X3 ⟨kf, ⟨rfl, hj3, kp3⟩ | ⟨rfl, hx3⟩⟩
      · have KF := aside (keepsFrom_up kf (show W.heap.size ≤ V.heap.size from by have := VS.out; omega))
        have KP := aside kp3
        have J3 := aside hj3
        clear kf kp3 hj3 hy
        gi_wp2
        exact ⟨KF.out, KP.out, by rw [hsn.out]; exact J3.out, KP.out.2.1 _ _ HX.out.2.1, KP.out.2.2 _ _ HX.out.2.2⟩
      · have KF := aside (keepsFrom_up kf (show W.heap.size ≤ V.heap.size from by have := VS.out; omega))
        have X3' := aside hx3
        clear kf hx3 hy
        gi_wp2
        exact ⟨KF.out, rfl, by rw [hsn.out]; exact X3'.out⟩
    | true =>
      cases dd with
      | true =>
        obtain ⟨fn, tmps, assign, body, hy, hR⟩ := HY.out (entsOf true pre) ⟨vk, vc, vn, vv, true⟩ X HX.out.1 (Nat.lt_of_le_of_lt (entsOf_length _ _) HLN.out)
        dsimp only [encE] at hy
        have HR := aside hR
        clear hR
        gi_wp2_with fail
        refine HR.out.mono ?_
        rintro e X3 ⟨kf, ⟨rfl, hj3, kp3⟩ | ⟨rfl, hx3⟩⟩
        · have KF := aside (keepsFrom_up kf (show W.heap.size ≤ V.heap.size from by have := VS.out; omega))
          have KP := aside kp3
          have J3 := aside hj3
          clear kf kp3 hj3 hy
          gi_wp2
          exact ⟨KF.out, KP.out, by rw [hsn.out]; exact J3.out, KP.out.2.1 _ _ HX.out.2.1, KP.out.2.2 _ _ HX.out.2.2⟩
        · have KF := aside (keepsFrom_up kf (show W.heap.size ≤ V.heap.size from by have := VS.out; omega))
          have X3' := aside hx3
          clear kf hx3 hy
          gi_wp2
          exact ⟨KF.out, rfl, by rw [hsn.out]; exact X3'.out⟩
      | false =>
        gi_wp2
        exact ⟨KeepsFrom.refl _ _, KpT.refl _, by rw [hsn.out]; simpa using HX.out.1, HX.out.2.1, HX.out.2.2⟩
  case done =>
    rintro D xs X hD rfl ⟨hj, hy, hd⟩ hK
    have FIN := aside (HJ.out.putObj (.deferred none) hj (by have := VS.out; omega) hK rfl)
    clear hj hy hd
    gi_wp2
    refine ⟨by simp, .inl ⟨_, _, rfl, run_takeDeferred hK, ?_⟩⟩
    exact ⟨_, results_none rfl _ _ _, ⟨_, rfl⟩, .inl ⟨_, rfl, FIN.out⟩⟩
  case stop =>
    rintro D c pre X hD hp ⟨rfl, hj⟩ hK
    have FIN := aside (HJx.out.putObj (.deferred none) hj (by have := VS.out; omega) hK rfl)
    clear hj
    gi_wp2
    refine ⟨by simp, .inl ⟨_, _, rfl, run_takeDeferred hK, ?_⟩⟩
    exact ⟨_, results_none rfl _ _ _, ⟨_, rfl⟩, .inr ⟨_, entsOf_prefix hp, FIN.out⟩⟩

end Go.Proofs.YtlgcdcjhflihiaaDoor
namespace Go.Proofs.YtlgcdcjhflihiaaDoor
open Go.RowKit
set_option linter.unusedVariables false

set_option maxHeartbeats 3200000 in
set_option maxRecDepth 100000 in
theorem sloadNil (nd : Int) (w : World) : Calls Tryd.prog 31 #[.int .i64 nd, .int .i64 0, .slice none 0 0] w fun e w' => Below w.heap.size w w' ∧
      ((nodeB nd = false ∧ e = .returned (.tuple #[.pointer none, .int .i64 1])) ∨ (nodeB nd = true ∧ ∃ sb g tb, e = .returned (.tuple #[.pointer (some ⟨sb, 0, none⟩), .int .i64 0]) ∧ IsSt w' sb g tb nd 0 .nil 0 ∧ w.heap.size ≤ sb ∧ w.heap.size ≤ g ∧ w.heap.size ≤ tb)) := by
  by_cases h1 : nd < 0
  · have HB := aside (node_no1 h1)
    go_enter Tryd.func31, Tryd.ntmps31
    go_wp2
    go_ret2
    exact ⟨Below.refl _ _, .inl ⟨HB.out, rfl⟩⟩
  · by_cases h2 : 8 ≤ nd
    · have HB := aside (node_no2 h2)
      go_enter Tryd.func31, Tryd.ntmps31
      go_wp2
      go_ret2
      exact ⟨Below.refl _ _, .inl ⟨HB.out, rfl⟩⟩
    · have HB := aside (node_yes h1 h2)
      have C := aside (sempty nd 0 w)
      go_enter Tryd.func31, Tryd.ntmps31
      go_wp2_with fail
      refine C.out.mono ?_
      rintro e w1 ⟨sb, g, tb, rfl, hs, b1, l1, l2, l3⟩
      have HS := aside hs
      have B1 := aside b1
      have HL := aside (show w.heap.size ≤ sb ∧ w.heap.size ≤ g ∧ w.heap.size ≤ tb from ⟨l1, l2, l3⟩)
      clear hs b1 l1 l2 l3 C
      go_wp2
      go_loopw [36] (fun i wr => i = .int .i64 0 ∧ wr = w1) (fun _ _ => 0)
      case atStart => exact ⟨rfl, rfl⟩
      case round =>
        obtain ⟨rfl, rfl⟩ := hrel
        go_wp2
        go_ret2
        exact ⟨B1.out, .inr ⟨HB.out, sb, g, tb, rfl, HS.out, HL.out⟩⟩

set_option maxHeartbeats 3200000 in
set_option maxRecDepth 100000 in
theorem snew (nd : Int) (w : World) : Calls Tryd.prog 9 #[.int .i64 nd] w fun e w' => Below w.heap.size w w' ∧
      ((nodeB nd = false ∧ e = .returned (.tuple #[.pointer none, .int .i64 1])) ∨ (nodeB nd = true ∧ ∃ sb g tb, e = .returned (.tuple #[.pointer (some ⟨sb, 0, none⟩), .int .i64 0]) ∧ IsSt w' sb g tb nd 0 .nil 0 ∧ w.heap.size ≤ sb ∧ w.heap.size ≤ g ∧ w.heap.size ≤ tb)) := by
  have C := aside (sloadNil nd w)
  go_enter Tryd.func9, Tryd.ntmps9
  go_wp2_with fail
  refine C.out.mono ?_
  rintro e w1 ⟨b1, ⟨hn, rfl⟩ | ⟨hn, sb, g, tb, rfl, hs, hl⟩⟩
  · have HB := aside hn
    have B1 := aside b1
    clear hn b1 C
    go_wp2
    go_ret2
    exact ⟨B1.out, .inl ⟨HB.out, rfl⟩⟩
  · have HB := aside hn
    have B1 := aside b1
    have HS := aside hs
    have HL := aside hl
    clear hn b1 C hs hl
    go_wp2
    go_ret2
    exact ⟨B1.out, .inr ⟨HB.out, sb, g, tb, rfl, HS.out, HL.out⟩⟩

end Go.Proofs.YtlgcdcjhflihiaaDoor
namespace Go.Proofs.YtlgcdcjhflihiaaDoor
open Go.RowKit
set_option linter.unusedVariables false

/-- The store in the block sb holds Ls. -/
def Sto (w : World) (sb g tb : Nat) (nd ck : Int) (Ls : List En) : Prop := ∃ T n, IsSt w sb g tb nd ck T n ∧ Hol T Ls

theorem Sto.below {w w' : World} {sb g tb : Nat} {nd ck : Int} {Ls : List En} (h : Sto w sb g tb nd ck Ls) (b : Below w.heap.size w w') : Sto w' sb g tb nd ck Ls := by
  obtain ⟨T, n, h1, h2⟩ := h
  exact ⟨T, n, h1.below b, h2⟩
theorem Sto.keeps {w w' : World} {sb g tb : Nat} {nd ck : Int} {Ls : List En} (h : Sto w sb g tb nd ck Ls) (L : Lanes w) (k : Keeps (Of sb g tb) w w') : Lanes w' := by
  obtain ⟨T, n, h1, h2⟩ := h
  exact L.keeps k (L.apart h1)
theorem Sto.rises {w : World} {sb g tb : Nat} {nd ck : Int} {Ls : List En} (h : Sto w sb g tb nd ck Ls) : RisesE Ls := by
  obtain ⟨T, n, h1, h2⟩ := h
  exact h2.rises
theorem Sto.not {w : World} {sb g tb : Nat} {nd ck : Int} {Ls : List En} (h : Sto w sb g tb nd ck Ls) {i : Nat} {cs : Array Value} {U : TypeId} (hi : w.heap[i]? = some (.cells cs U (0, 0))) (h1 : U ≠ 82) (h2 : U ≠ 111) (h3 : U ≠ 149) : ¬ Of sb g tb i := by
  obtain ⟨T, n, h4, h5⟩ := h
  exact h4.not hi h1 h2 h3
theorem Sto.lt {w : World} {sb g tb : Nat} {nd ck : Int} {Ls : List En} (h : Sto w sb g tb nd ck Ls) : sb < w.heap.size ∧ g < w.heap.size ∧ tb < w.heap.size := by
  obtain ⟨T, n, h1, h2⟩ := h
  exact h1.lt
theorem Sto.keep {w w' : World} {sb g tb sb' g' tb' : Nat} {nd ck nd' ck' : Int} {Ls Ls' : List En} (h : Sto w sb g tb nd ck Ls) (h' : Sto w sb' g' tb' nd' ck' Ls') (k : Keeps (Of sb' g' tb') w w') (a1 : sb ≠ sb') (a2 : g ≠ g') (a3 : tb ≠ tb') : Sto w' sb g tb nd ck Ls := by
  obtain ⟨T, n, h1, h2⟩ := h
  obtain ⟨T', n', h1', h2'⟩ := h'
  exact ⟨T, n, h1.keep h1' k a1 a2 a3, h2⟩

theorem qlen {w : World} {sb g tb : Nat} {nd ck : Int} {Ls : List En} (h : Sto w sb g tb nd ck Ls) : Calls Tryd.prog 12 #[.pointer (some ⟨sb, 0, none⟩)] w fun e w' => e = .returned (.int .i64 (Ls.length : Int)) ∧ w' = w := by
  obtain ⟨T, n, h1, h2⟩ := h
  have e1 : (T.cnt : Int) = (Ls.length : Int) := by rw [h2.cnt]
  rw [← e1]
  exact slen h1

theorem qclock {w : World} {sb g tb : Nat} {nd ck : Int} {Ls : List En} (h : Sto w sb g tb nd ck Ls) : Calls Tryd.prog 11 #[.pointer (some ⟨sb, 0, none⟩)] w fun e w' => e = .returned (.int .i64 ck) ∧ w' = w := by
  obtain ⟨T, n, h1, h2⟩ := h
  exact sclock h1

theorem qnode {w : World} {sb g tb : Nat} {nd ck : Int} {Ls : List En} (h : Sto w sb g tb nd ck Ls) : Calls Tryd.prog 10 #[.pointer (some ⟨sb, 0, none⟩)] w fun e w' => e = .returned (.int .i64 nd) ∧ w' = w := by
  obtain ⟨T, n, h1, h2⟩ := h
  exact snode h1

theorem qnew (nd : Int) (w : World) : Calls Tryd.prog 9 #[.int .i64 nd] w fun e w' => Below w.heap.size w w' ∧
      ((nodeB nd = false ∧ e = .returned (.tuple #[.pointer none, .int .i64 1])) ∨ (nodeB nd = true ∧ ∃ sb g tb, e = .returned (.tuple #[.pointer (some ⟨sb, 0, none⟩), .int .i64 0]) ∧ Sto w' sb g tb nd 0 [] ∧ w.heap.size ≤ sb ∧ w.heap.size ≤ g ∧ w.heap.size ≤ tb)) :=
  (snew nd w).mono fun e w' ⟨h1, h2⟩ => ⟨h1, h2.imp id (fun ⟨h3, sb, g, tb, h4, h5, h6⟩ => ⟨h3, sb, g, tb, h4, ⟨_, _, h5, Hol.nil⟩, h6⟩)⟩

theorem qput (k v : ByteArray) {w : World} {sb g tb : Nat} {nd ck : Int} {Ls : List En} (h : Sto w sb g tb nd ck Ls) (L : Lanes w) (hl : Ls.length ≤ 1000000) :
    Calls Tryd.prog 15 #[.pointer (some ⟨sb, 0, none⟩), .string k, .string v] w fun r w' => ∃ c m er, r = .returned (.tuple #[.agg #[.int .i64 c, .int .i64 m], .int .i64 er]) ∧ er = wrErr k v nd ck Ls ∧ Keeps (Of sb g tb) w w' ∧ Lanes w' ∧
      ((er ≠ 0 ∧ c = 0 ∧ m = 0 ∧ Sto w' sb g tb nd ck Ls) ∨ (er = 0 ∧ c = ck + 1 ∧ m = nd ∧ Sto w' sb g tb nd (ck + 1) (insE (wrEn k v false nd ck) Ls))) := by
  obtain ⟨T, n, h1, h2⟩ := h
  refine (sput k v h1 L h2 hl).mono fun r w' ⟨c, m, er, e1, e2, e3, e4⟩ => ⟨c, m, er, e1, e2, e3, L.keeps e3 (L.apart h1), e4.imp (fun ⟨a, b, d, i⟩ => ⟨a, b, d, _, _, i, h2⟩) (fun ⟨a, b, d, i⟩ => ⟨a, b, d, _, _, i, h2.put (wrEn k v false nd ck)⟩)⟩

theorem qdel (k : ByteArray) {w : World} {sb g tb : Nat} {nd ck : Int} {Ls : List En} (h : Sto w sb g tb nd ck Ls) (L : Lanes w) (hl : Ls.length ≤ 1000000) :
    Calls Tryd.prog 16 #[.pointer (some ⟨sb, 0, none⟩), .string k] w fun r w' => ∃ c m er, r = .returned (.tuple #[.agg #[.int .i64 c, .int .i64 m], .int .i64 er]) ∧ er = wrErr k ⟨#[]⟩ nd ck Ls ∧ Keeps (Of sb g tb) w w' ∧ Lanes w' ∧
      ((er ≠ 0 ∧ c = 0 ∧ m = 0 ∧ Sto w' sb g tb nd ck Ls) ∨ (er = 0 ∧ c = ck + 1 ∧ m = nd ∧ Sto w' sb g tb nd (ck + 1) (insE (wrEn k ⟨#[]⟩ true nd ck) Ls))) := by
  obtain ⟨T, n, h1, h2⟩ := h
  refine (sdel k h1 L h2 hl).mono fun r w' ⟨c, m, er, e1, e2, e3, e4⟩ => ⟨c, m, er, e1, e2, e3, L.keeps e3 (L.apart h1), e4.imp (fun ⟨a, b, d, i⟩ => ⟨a, b, d, _, _, i, h2⟩) (fun ⟨a, b, d, i⟩ => ⟨a, b, d, _, _, i, h2.put (wrEn k ⟨#[]⟩ true nd ck)⟩)⟩

theorem qtake (e : En) {w : World} {sb g tb : Nat} {nd ck : Int} {Ls : List En} (h : Sto w sb g tb nd ck Ls) (L : Lanes w) (hl : Ls.length ≤ 1000000) :
    Calls Tryd.prog 17 #[.pointer (some ⟨sb, 0, none⟩), .agg #[.string e.k, .int .i64 e.c, .int .i64 e.n, .string e.v, .bool e.d]] w fun r w' => r = .returned (.tuple #[.bool (tkSay e Ls).2, .int .i64 (tkSay e Ls).1]) ∧ Keeps (Of sb g tb) w w' ∧ Lanes w' ∧
      (((tkSay e Ls).2 = false ∧ Sto w' sb g tb nd ck Ls) ∨ ((tkSay e Ls).2 = true ∧ Sto w' sb g tb nd (ckm ck e.c) (insE e Ls))) := by
  obtain ⟨T, n, h1, h2⟩ := h
  refine (stake e h1 L h2 hl).mono fun r w' ⟨e1, e3, e4⟩ => ⟨e1, e3, L.keeps e3 (L.apart h1), e4.imp (fun ⟨a, i⟩ => ⟨a, _, _, i, h2⟩) (fun ⟨a, i⟩ => ⟨a, _, _, i, h2.put e⟩)⟩

theorem qget (k : ByteArray) {w : World} {sb g tb : Nat} {nd ck : Int} {Ls : List En} (h : Sto w sb g tb nd ck Ls) (hl : Ls.length ≤ 1000000) :
    Calls Tryd.prog 21 #[.pointer (some ⟨sb, 0, none⟩), .string k] w fun r w' => r = .returned (if (16 : Int) < k.size then .tuple #[.agg #[.string ⟨#[]⟩, .int .i64 0, .int .i64 0, .string ⟨#[]⟩, .bool false], .bool false, .int .i64 20] else .tuple #[.agg #[.string ((lookE k Ls).getD eNone).k, .int .i64 ((lookE k Ls).getD eNone).c, .int .i64 ((lookE k Ls).getD eNone).n, .string ((lookE k Ls).getD eNone).v, .bool ((lookE k Ls).getD eNone).d], .bool (lookE k Ls).isSome, .int .i64 0]) ∧ Below w.heap.size w w' := by
  obtain ⟨T, n, h1, h2⟩ := h
  exact sget k h1 h2 hl

theorem qfold (lo hi : ByteArray) (op : Bool) {w : World} {sb g tb : Nat} {nd ck : Int} {Ls : List En} (h : Sto w sb g tb nd ck Ls) (L : Lanes w) (hl : Ls.length ≤ 1000000) :
    Calls Tryd.prog 24 #[.pointer (some ⟨sb, 0, none⟩), .agg #[.string lo, .string hi, .bool op]] w fun r w' => r = .returned (.tuple #[.agg #[.int .i64 (foldV lo hi op Ls).n, .int .u64 (foldV lo hi op Ls).a, .int .u64 (foldV lo hi op Ls).b], .int .i64 (Rg.chk ⟨lo, hi, op⟩)]) ∧ Sto w' sb g tb nd ck Ls ∧ Keeps (Of sb g tb) w w' ∧ Lanes w' := by
  obtain ⟨T, n, h1, h2⟩ := h
  exact (sfold lo hi op h1 h2 hl).mono fun r w' ⟨e1, ⟨d, e2, e3⟩, e4⟩ => ⟨e1, ⟨_, _, e3, h2⟩, e4, L.keeps e4 (L.apart h1)⟩

end Go.Proofs.YtlgcdcjhflihiaaDoor
namespace Go.Proofs.YtlgcdcjhflihiaaDoor
open Go.RowKit
set_option linter.unusedVariables false
/-- A list of entries in memory, with keys of a size that memory has. -/
def EntsIn (w : World) (a : Option Addr) (len cap : Nat) (T : Nat → En) : Prop :=
  len ≤ cap ∧ cap ≤ maxLen ∧ (len = 0 ∨ ∃ b off, a = some ⟨b, off, none⟩ ∧ b < w.heap.size ∧ ∀ i, i < len →
    (w.cell? ⟨b, off + i * 5, none⟩ = some (.string (T i).k) ∧ w.cell? ⟨b, off + i * 5 + 1, none⟩ = some (.int .i64 (T i).c) ∧ w.cell? ⟨b, off + i * 5 + 2, none⟩ = some (.int .i64 (T i).n) ∧ w.cell? ⟨b, off + i * 5 + 3, none⟩ = some (.string (T i).v) ∧ w.cell? ⟨b, off + i * 5 + 4, none⟩ = some (.bool (T i).d)) ∧ (T i).k.size ≤ 140737488351232)

theorem EntsIn.keep {w w' : World} {a : Option Addr} {len cap : Nat} {T : Nat → En} (h : EntsIn w a len cap T) (b : Below w.heap.size w w') : EntsIn w' a len cap T := by
  obtain ⟨h1, h2, h3⟩ := h
  refine ⟨h1, h2, ?_⟩
  rcases h3 with h3 | ⟨bb, off, rfl, hb, hc⟩
  · exact .inl h3
  · refine .inr ⟨bb, off, rfl, by have := b.size; omega, fun i hi => ?_⟩
    obtain ⟨⟨c0, c1, c2, c3, c4⟩, hk⟩ := hc i hi
    exact ⟨⟨cell_in c0 b, cell_in c1 b, cell_in c2 b, cell_in c3 b, cell_in c4 b⟩, hk⟩

/-- The five cells of an entry's block. -/
theorem quint {w : World} {i : Nat} {a b c d e : Value} {T : TypeId} (h : w.heap[i]? = some (.cells #[a, b, c, d, e] T (0, 0))) :
    w.cell? ⟨i, 0, none⟩ = some a ∧ w.cell? ⟨i, 1, none⟩ = some b ∧ w.cell? ⟨i, 2, none⟩ = some c ∧ w.cell? ⟨i, 3, none⟩ = some d ∧ w.cell? ⟨i, 4, none⟩ = some e :=
  ⟨by simp [World.cell?, h], by simp [World.cell?, h], by simp [World.cell?, h], by simp [World.cell?, h], by simp [World.cell?, h]⟩

end Go.Proofs.YtlgcdcjhflihiaaDoor
namespace Go.Proofs.YtlgcdcjhflihiaaDoor
open Go.RowKit
set_option linter.unusedVariables false
def entVals (e : En) : List Value := [.string e.k, .int .i64 e.c, .int .i64 e.n, .string e.v, .bool e.d]

def entCells : List En → List Value
  | [] => []
  | e :: r => entVals e ++ entCells r

theorem entCells_length : ∀ l : List En, (entCells l).length = l.length * 5
  | [] => rfl
  | e :: r => by simp only [entCells, List.length_append, entCells_length r, List.length_cons, entVals]; simp; omega

theorem entCells_append : ∀ l m : List En, entCells (l ++ m) = entCells l ++ entCells m
  | [], _ => rfl
  | e :: r, m => by simp [entCells, entCells_append r m]

theorem entCells_at : ∀ (l : List En) (i r : Nat) (e : En), l[i]? = some e → r < 5 → (entCells l)[i * 5 + r]? = (entVals e)[r]?
  | [], i, r, e, h, _ => by simp at h
  | x :: t, 0, r, e, h, hr => by
    simp at h; subst h
    simp only [entCells]
    rw [List.getElem?_append_left (by simp [entVals]; omega)]
    simp
  | x :: t, i + 1, r, e, h, hr => by
    simp only [entCells]
    rw [List.getElem?_append_right (by simp [entVals]; omega)]
    have := entCells_at t i r e (by simpa using h) hr
    rw [← this]
    congr 1
    simp [entVals]
    omega

theorem entCells_one (l : List En) : ∀ u ∈ entCells l, u.oneCell' = true := by
  induction l with
  | nil => intro u hu; simp [entCells] at hu
  | cons e r ih =>
    intro u hu
    simp only [entCells, List.mem_append] at hu
    rcases hu with hu | hu
    · simp [entVals] at hu
      rcases hu with rfl | rfl | rfl | rfl | rfl <;> rfl
    · exact ih u hu

theorem infoEnt : (Tryd.prog.info? 39).map (fun i => (i.zero, i.size, i.bytes)) = some (some (.agg #[.string ⟨#[]⟩, .int .i64 0, .int .i64 0, .string ⟨#[]⟩, .bool false]), 5, 56) := by kernel_rfl

def nthE (l : List En) (i : Nat) : En := l.getD i ⟨⟨#[]⟩, 0, 0, ⟨#[]⟩, false⟩

theorem nthE_get {l : List En} {i : Nat} (h : i < l.length) : l[i]? = some (nthE l i) := by
  unfold nthE; rw [List.getD, List.getElem?_eq_getElem h]; rfl

def KeysOk (l : List En) : Prop := ∀ e ∈ l, e.k.size ≤ 140737488351232

/-- The cells of a part of an owned row. -/
theorem row_cells {w : World} {B g cap n : Nat} {l : List En} (h : w.ownsRow B 39 5 (.slice (some ⟨g, 0, none⟩) n cap) n (entCells l)) {i : Nat} (hi : i < l.length) :
    w.cell? ⟨g, i * 5, none⟩ = some (.string (nthE l i).k) ∧ w.cell? ⟨g, i * 5 + 1, none⟩ = some (.int .i64 (nthE l i).c) ∧ w.cell? ⟨g, i * 5 + 2, none⟩ = some (.int .i64 (nthE l i).n) ∧ w.cell? ⟨g, i * 5 + 3, none⟩ = some (.string (nthE l i).v) ∧ w.cell? ⟨g, i * 5 + 4, none⟩ = some (.bool (nthE l i).d) := by
  have hn : l.length = n := by have := h.1; rw [entCells_length] at this; omega
  have e := nthE_get hi
  have c : ∀ r, r < 5 → w.cell? ⟨g, i * 5 + r, none⟩ = (entVals (nthE l i))[r]? := fun r hr => by
    rw [h.cellAt (i * 5 + r) (by omega), entCells_at l i r _ e hr]
  exact ⟨by simpa [entVals] using c 0 (by omega), by simpa [entVals] using c 1 (by omega), by simpa [entVals] using c 2 (by omega), by simpa [entVals] using c 3 (by omega), by simpa [entVals] using c 4 (by omega)⟩

theorem row_max {w : World} {B g cap n : Nat} {xs : List Value} {e s : Nat} (h : w.ownsRow B e s (.slice (some ⟨g, 0, none⟩) n cap) n xs) : n ≤ cap ∧ cap ≤ maxLen := by
  rcases h.2 with ⟨h, _⟩ | ⟨g', cap', cur, h1, h2, h3, h4, h5, h6⟩
  · cases h
  · injection h1 with e1 e2 e3
    omega

/-- A part of an owned row as a list of entries in memory: m entries from entry o on. -/
theorem ents_of_row {w : World} {B g cap n : Nat} {l : List En} (h : w.ownsRow B 39 5 (.slice (some ⟨g, 0, none⟩) n cap) n (entCells l)) (hk : KeysOk l) {o m c : Nat} (hm : o + m ≤ n) (hc : m ≤ c) (hx : c ≤ maxLen) {a : Option Addr} (ha : m = 0 ∨ a = some ⟨g, o * 5, none⟩) :
    EntsIn w a m c (fun i => nthE l (o + i)) := by
  have hn : l.length = n := by have := h.1; rw [entCells_length] at this; omega
  refine ⟨hc, hx, ?_⟩
  rcases ha with ha | rfl
  · exact .inl ha
  · refine .inr ⟨g, o * 5, rfl, (h.lt g rfl).2, fun i hi => ⟨?_, hk _ ?_⟩⟩
    · have := row_cells h (i := o + i) (by omega)
      rw [show (o + i) * 5 = o * 5 + i * 5 from by omega] at this
      exact this
    · have := nthE_get (l := l) (i := o + i) (by omega)
      exact List.mem_of_getElem? this

/-- The cells of a list of entries that came in. -/
theorem ents_cells {w : World} {y : Addr} {len cap : Nat} {T : Nat → En} (h : EntsIn w (some y) len cap T) : ∀ j u, (entCells ((List.range len).map T))[j]? = some u → w.cell? (y.add j) = some u := by
  intro j u hj
  have hjl : j < len * 5 := by
    have := (List.getElem?_eq_some_iff.1 hj).1
    rw [entCells_length] at this
    simpa using this
  rcases h.2.2 with h0 | ⟨b, off, hy, hb, hc⟩
  · omega
  · injection hy with hy
    subst hy
    obtain ⟨⟨c0, c1, c2, c3, c4⟩, -⟩ := hc (j / 5) (by omega)
    have hat := entCells_at ((List.range len).map T) (j / 5) (j % 5) (T (j / 5)) (by rw [List.getElem?_map, List.getElem?_range (by omega)]; rfl) (by omega)
    rw [show j / 5 * 5 + j % 5 = j from by omega] at hat
    rw [hat] at hj
    rw [Addr.add_lit, show off + j = off + j / 5 * 5 + j % 5 from by omega]
    have hr : j % 5 < 5 := by omega
    generalize j % 5 = r at *
    match r, hr with
    | 0, _ => simp [entVals] at hj; subst hj; exact c0
    | 1, _ => simp [entVals] at hj; subst hj; exact c1
    | 2, _ => simp [entVals] at hj; subst hj; exact c2
    | 3, _ => simp [entVals] at hj; subst hj; exact c3
    | 4, _ => simp [entVals] at hj; subst hj; exact c4

/-- A copy of entries by append onto nothing, as one operation. -/
theorem op_append_copy {w : World} {o : Oper} {act : Act} {K : Act → World → Prop} {Q : Exit → Act → World → Prop} (s x : Operand)
    (ho : o.op = .call { callee := .builtin .append, args := #[s, x], argTypes := #[31, 31] })
    (hs : act.eval s = .slice none 0 0) (a : Option Addr) (len cap : Nat) (T : Nat → En) (hx : act.eval x = .slice a len cap) (hL : EntsIn w a len cap T)
    (hform : (a = none ∧ len = 0 ∧ cap = 0) ∨ ∃ y, a = some y) (hlen : len * 56 ≤ 140737488351232)
    (h : ∀ v' w', w'.ownsRow w.heap.size 39 5 v' len (entCells ((List.range len).map T)) → Below w.heap.size w w' → K (act.put o.dst v') w') : o.wp Tryd.prog act w K Q := by
  obtain ⟨i0, hi, hz0, hz1, hz2⟩ := info_parts infoEnt
  have hnil : w.ownsRow w.heap.size 39 5 (.slice none 0 0) 0 [] := World.ownsRow_nil _ _ _ _
  rcases hform with ⟨rfl, rfl, rfl⟩ | ⟨y, rfl⟩
  · have hrun := run_append_owned_none (P := Tryd.prog) (w := w) w.heap.size 31 o.type 39 i0 5 Tryd.underlying31 hi _ _ _ hnil
    unfold Oper.wp
    simp [execOp, ho, resolve, invoke, builtin, hs, hx, hrun, Result.andThen]
    exact h _ w hnil (Below.refl _ _)
  · refine wp_append_own w s x _ ho w.heap.size 39 i0 _ 5 56 Tryd.underlying31 hi hz0 hz1 hz2 rfl (by decide) _ _ _ hs hnil y len cap (entCells ((List.range len).map T)) hx (by rw [entCells_length]; simp) (ents_cells hL) (entCells_one _) (by unfold maxLen; omega) (by omega) (Nat.le_refl _) ?_
    intro v' w' ho' hg _
    have hbel : Below w.heap.size w w' := (Below.refl _ w).grown hg (Nat.le_refl _) (fun k e => by cases e)
    simp only [Nat.zero_add, List.nil_append] at ho'
    exact h v' w' ho' hbel

/-- One entry appended to an owned row, as one operation. -/
theorem op_append_ent {w : World} {o : Oper} {act : Act} {K : Act → World → Prop} {Q : Exit → Act → World → Prop} (s x : Operand)
    (ho : o.op = .call { callee := .builtin .append, args := #[s, x], argTypes := #[31, 31] })
    (B n : Nat) (v : Value) (l : List En) (hs : act.eval s = v) (hown : w.ownsRow B 39 5 v n (entCells l)) (b c : Nat) (e : En) (hx : act.eval x = .slice (some ⟨b, 0, none⟩) 1 c)
    (hb : w.heap[b]? = some (.cells #[.string e.k, .int .i64 e.c, .int .i64 e.n, .string e.v, .bool e.d] 39 (0, 0))) (hlen : n * 56 ≤ 140737488351232) (hB : B ≤ w.heap.size)
    (h : ∀ g cap w', w'.ownsRow B 39 5 (.slice (some ⟨g, 0, none⟩) (n + 1) cap) (n + 1) (entCells (l ++ [e])) → w.grownBy w' v.ownBlock → K (act.put o.dst (.slice (some ⟨g, 0, none⟩) (n + 1) cap)) w') : o.wp Tryd.prog act w K Q := by
  obtain ⟨i0, hi, hz0, hz1, hz2⟩ := info_parts infoEnt
  refine wp_append_own w s x _ ho B 39 i0 _ 5 56 Tryd.underlying31 hi hz0 hz1 hz2 rfl (by decide) _ _ _ hs hown ⟨b, 0, none⟩ 1 c (entVals e) hx rfl ?_ (fun u hu => entCells_one [e] u (by simpa [entCells] using hu)) (by unfold maxLen; omega) (by omega) hB ?_
  · exact World.news_of_block (cs := #[.string e.k, .int .i64 e.c, .int .i64 e.n, .string e.v, .bool e.d]) (t := 39) (fr := (0, 0)) hb
  · intro v' w' ho' hg _
    have e1 : entCells l ++ entVals e = entCells (l ++ [e]) := by rw [entCells_append]; simp [entCells]
    rw [e1] at ho'
    rcases ho'.2 with ⟨h1, h2⟩ | ⟨g, cap', cur, rfl, _⟩
    · omega
    · exact h g cap' w' ho' hg

theorem own_low {w : World} {base base' : Nat} {e : TypeId} {size : Nat} {v : Value} {n : Nat} {xs : List Value} (h : w.ownsRow base e size v n xs) (hb : base' ≤ base) : w.ownsRow base' e size v n xs := by
  refine ⟨h.1, ?_⟩
  rcases h.2 with h0 | ⟨g, cap, cur, h1, h2, h3⟩
  · exact .inl h0
  · exact .inr ⟨g, cap, cur, h1, Nat.le_trans hb h2, h3⟩

theorem own_on {w w' : World} {base : Nat} {e : TypeId} {size : Nat} {v : Value} {n : Nat} {xs : List Value} (h : w.ownsRow base e size v n xs) (hb : Below w.heap.size w w') : w'.ownsRow base e size v n xs := by
  refine ⟨h.1, ?_⟩
  rcases h.2 with h0 | ⟨g, cap, cur, h1, h2, h3, h4⟩
  · exact .inl h0
  · exact .inr ⟨g, cap, cur, h1, h2, blk_on h3 hb, h4⟩

end Go.Proofs.YtlgcdcjhflihiaaDoor
namespace Go.Proofs.YtlgcdcjhflihiaaDoor
open Go.RowKit Go.Shelf
set_option linter.unusedVariables false

attribute [local go_sem] Oper.semAt_some

/-- An iterator over the entries es. -/
def SeqE (w : World) (lb : Array Value) (es : List En) : Prop := ∃ N, N ≤ 1000000 ∧ es.length ≤ N ∧ SeqO Tryd.prog 69 lb encE KpT (fun ys => ys = es) (fun q => q <+: es) N w

theorem SeqE.below {w w' : World} {lb : Array Value} {es : List En} (h : SeqE w lb es) (b : Below w.heap.size w w') : SeqE w' lb es := by
  obtain ⟨N, h1, h2, h3⟩ := h
  exact ⟨N, h1, h2, h3.of_below b⟩

/-- What is gone through: what is in the range, dead ones only if they are wanted. -/
def thruL (lo hi : ByteArray) (op dd : Bool) (Ls : List En) : List En := (Ls.filter (inR lo hi op)).filter (fun e => dd || !e.d)

theorem rows_thru {T : Tr En Tl} {Ls : List En} {lo hi : ByteArray} {op : Bool} (hH : Hol T Ls) (h : op = true ∨ kLt hi lo = false) (dd : Bool) : entsOf dd (spanL T (belE lo Ls : Int) (endE hi op Ls : Int)) = thruL lo hi op dd Ls := by
  unfold spanL entsOf thruL
  have h1 := belE_le lo Ls
  have h2 := endE_le hi op Ls
  rw [show (max (belE lo Ls : Int) 0).toNat = belE lo Ls from by omega, show (min (endE hi op Ls : Int) (T.cnt : Int)).toNat = endE hi op Ls from by rw [hH.cnt]; omega, hH.rows, seg_map, seg_range hH.rises h, List.map_map]
  congr 1
  exact List.map_id _

set_option maxHeartbeats 3200000 in
set_option maxRecDepth 100000 in
theorem sthru (lo hi : ByteArray) (op dd : Bool) {Ls : List En} {w : World} {sb g tb : Nat} {nd ck : Int} {T : Tr En Tl} {n : Nat} (h : IsSt w sb g tb nd ck T n) (hH : Hol T Ls) (hl : Ls.length ≤ 1000000) :
    Calls Tryd.prog 45 #[.pointer (some ⟨sb, 0, none⟩), .agg #[.string lo, .string hi, .bool op], .bool dd] w fun r w' => Below w.heap.size w w' ∧ ((Rg.chk ⟨lo, hi, op⟩ ≠ 0 ∧ r = .returned (.tuple #[.nilFunc, .int .i64 (Rg.chk ⟨lo, hi, op⟩)])) ∨ (Rg.chk ⟨lo, hi, op⟩ = 0 ∧ ∃ lb, r = .returned (.tuple #[.func (.func 69) #[] lb, .int .i64 0]) ∧ SeqE w' lb (thruL lo hi op dd Ls))) := by
  have hmf : ∀ (fn : Fn) (first cap : Array Value) (w : World), (Instr.makeFunc fn first cap).run Tryd.prog w = .ok (.func fn first cap) w := fun _ _ _ _ => rfl
  have b0 := bnew w (.cells #[.string lo, .string hi, .bool op] 35)
  have b1 := bnew (w.alloc (.cells #[.string lo, .string hi, .bool op] 35)) (.cells #[.bool dd] 4)
  have B := aside (bthen b0 b1)
  have G0 := aside (blk_on (heap_alloc_new w (.cells #[.string lo, .string hi, .bool op] 35)) b1)
  have g1 := heap_alloc_new (w.alloc (.cells #[.string lo, .string hi, .bool op] 35)) (.cells #[.bool dd] 4)
  simp only [World.size_alloc] at g1
  have G1 := aside g1
  have H := aside (h.below B.out)
  have C1 := aside (fun (W : World) => check_any lo hi op W)
  have CR := aside (fun (W : World) (h : IsSt W sb g tb nd ck T n) => srows lo hi op h hH hl)
  have HH := aside hH
  have HLE := aside hl
  obtain ⟨c, hc⟩ : ∃ c, Rg.chk ⟨lo, hi, op⟩ = c := ⟨_, rfl⟩
  rw [hc] at C1 ⊢
  have HC := aside hc
  clear h hH hl b0 b1 g1 hc
  obtain ⟨q0, q1, q2, -⟩ := tri G0.out
  by_cases h0 : c = 0
  · subst h0
    go_enter Tryd.func45, Tryd.ntmps45
    go_wp2_with fail
    refine (C1.out _).mono ?_
    rintro e w1 ⟨rfl, b1⟩
    have H1 := aside (H.out.below b1)
    have G1' := aside (blk_on G1.out b1)
    have B1 := aside (bthen B.out b1)
    obtain ⟨r0, r1, r2, -⟩ := tri (blk_on G0.out b1)
    clear b1 H G1 G0 B C1 q0 q1 q2
    go_wp2_with fail
    refine (CR.out _ H1.out).mono ?_
    rintro e w2 ⟨rfl, b2⟩
    have H2 := aside (H1.out.below b2)
    have G2 := aside (blk_on G1'.out b2)
    have B2 := aside (bthen B1.out b2)
    obtain ⟨-, -, -, c3, -⟩ := quad H2.out.blk
    clear b2 H1 G1' B1 CR r0 r1 r2
    go_wp2_with fail
    obtain ⟨p, ht, hT⟩ := H2.out.tree
    have HT := aside hT
    have CS := aside (yspan (belE lo Ls : Int) (endE hi op Ls : Int) ht)
    clear ht hT
    refine CS.out.mono ?_
    rintro e w3 ⟨lbS, rfl, hs, b3⟩
    have HS := aside hs
    have B3 := aside b3
    clear hs b3 CS c3
    go_wp2
    go_ret2
    have b4 := bnew w3 (.cells #[.func (.func 58) #[] lbS] 94)
    have hcn := HH.out.cnt
    have hT3 : IsTE w3 p T := HT.out.on (fun _ _ e => blk_on e B3.out)
    have hle := HLE.out
    have hsp : (spanL T (belE lo Ls : Int) (endE hi op Ls : Int)).length ≤ Ls.length := by
      unfold spanL seg
      have := Tr.rows_length T
      simp only [List.length_drop, List.length_take]
      omega
    have hq := thru1 (dd := dd) (hb := w3.heap.size) (db := w.heap.size + 1) (sg := spanL T (belE lo Ls : Int) (endE hi op Ls : Int)) (heap_alloc_new w3 (.cells #[.func (.func 58) #[] lbS] 94)) (blk_on (blk_on G2.out B3.out) b4)
      (SeqO.of_stops fun n => span1 (HS.out.below b4) (hT3.on (fun _ _ e => blk_on e b4)) (by omega) (by omega) (Nat.le_refl _) (fun A B h => h.1))
    rw [rows_thru HH.out (chk_may HC.out) dd] at hq
    refine ⟨bthen (bthen B2.out B3.out) b4, .inr ⟨by simp, _, rfl, (spanL T (belE lo Ls : Int) (endE hi op Ls : Int)).length, by omega, ?_, hq⟩⟩
    rw [← rows_thru HH.out (chk_may HC.out) dd]
    exact entsOf_length _ _
  · have h0' : (c == 0) = false := beq_eq_false_iff_ne.2 h0
    have HN := aside h0
    clear h0
    go_enter Tryd.func45, Tryd.ntmps45
    go_wp2_with fail
    refine (C1.out _).mono ?_
    rintro e w1 ⟨rfl, b1⟩
    have B1 := aside (bthen B.out b1)
    clear b1 H G1 G0 B C1 q0 q1 q2
    go_wp2
    go_ret2
    exact ⟨B1.out, .inl ⟨HN.out, rfl⟩⟩

set_option maxHeartbeats 3200000 in
set_option maxRecDepth 100000 in
theorem sall (lo hi : ByteArray) (op : Bool) {Ls : List En} {w : World} {sb g tb : Nat} {nd ck : Int} {T : Tr En Tl} {n : Nat} (h : IsSt w sb g tb nd ck T n) (hH : Hol T Ls) (hl : Ls.length ≤ 1000000) :
    Calls Tryd.prog 26 #[.pointer (some ⟨sb, 0, none⟩), .agg #[.string lo, .string hi, .bool op]] w fun r w' => Below w.heap.size w w' ∧ ((Rg.chk ⟨lo, hi, op⟩ ≠ 0 ∧ r = .returned (.tuple #[.nilFunc, .int .i64 (Rg.chk ⟨lo, hi, op⟩)])) ∨ (Rg.chk ⟨lo, hi, op⟩ = 0 ∧ ∃ lb, r = .returned (.tuple #[.func (.func 69) #[] lb, .int .i64 0]) ∧ SeqE w' lb (thruL lo hi op true Ls))) := by
  have b0 := bnew w (.cells #[.string lo, .string hi, .bool op] 35)
  have C := aside (sthru lo hi op true (h.below b0) hH hl)
  have B := aside b0
  obtain ⟨q0, q1, q2, -⟩ := tri (heap_alloc_new w (.cells #[.string lo, .string hi, .bool op] 35))
  clear h hH hl b0
  go_enter Tryd.func26, Tryd.ntmps26
  go_wp2_with fail
  refine C.out.mono ?_
  rintro r w1 ⟨b1, ⟨hc, rfl⟩ | ⟨hc, lb, rfl, hs⟩⟩
  · have B1 := aside (bthen B.out b1)
    have HC := aside hc
    clear b1 hc C q0 q1 q2
    go_wp2
    go_ret2
    exact ⟨B1.out, .inl ⟨HC.out, rfl⟩⟩
  · have B1 := aside (bthen B.out b1)
    have HC := aside hc
    have HS := aside hs
    clear b1 hc hs C q0 q1 q2
    go_wp2
    go_ret2
    exact ⟨B1.out, .inr ⟨HC.out, _, rfl, HS.out⟩⟩

theorem qall (lo hi : ByteArray) (op : Bool) {w : World} {sb g tb : Nat} {nd ck : Int} {Ls : List En} (h : Sto w sb g tb nd ck Ls) (hl : Ls.length ≤ 1000000) :
    Calls Tryd.prog 26 #[.pointer (some ⟨sb, 0, none⟩), .agg #[.string lo, .string hi, .bool op]] w fun r w' => Below w.heap.size w w' ∧ ((Rg.chk ⟨lo, hi, op⟩ ≠ 0 ∧ r = .returned (.tuple #[.nilFunc, .int .i64 (Rg.chk ⟨lo, hi, op⟩)])) ∨ (Rg.chk ⟨lo, hi, op⟩ = 0 ∧ ∃ lb, r = .returned (.tuple #[.func (.func 69) #[] lb, .int .i64 0]) ∧ SeqE w' lb (thruL lo hi op true Ls))) := by
  obtain ⟨T, n, h1, h2⟩ := h
  exact sall lo hi op h1 h2 hl



end Go.Proofs.YtlgcdcjhflihiaaDoor
namespace Go.Proofs.YtlgcdcjhflihiaaDoor
open Go.RowKit Go.Shelf
set_option linter.unusedVariables false

attribute [local go_sem] Oper.semAt_some

theorem kLt_none (x : ByteArray) : kLt x ⟨#[]⟩ = false := by
  have h : (⟨#[]⟩ : ByteArray).toList = [] := by kernel_rfl
  unfold kLt
  rw [h]
  cases x.toList <;> rfl
theorem thru_whole (Ls : List En) : thruL ⟨#[]⟩ ⟨#[]⟩ true true Ls = Ls := by
  unfold thruL
  rw [List.filter_eq_self.2 (fun e _ => Bool.true_or _)]
  exact List.filter_eq_self.2 (fun e _ => by simp [inR, kLt_none])
theorem chk_whole : Rg.chk ⟨⟨#[]⟩, ⟨#[]⟩, true⟩ = 0 := by kernel_rfl

set_option maxHeartbeats 3200000 in
set_option maxRecDepth 100000 in
theorem whole_any (w : World) : Calls Tryd.prog 25 #[] w fun e w' => e = .returned (.agg #[.string ⟨#[]⟩, .string ⟨#[]⟩, .bool true]) ∧ Below w.heap.size w w' := by
  go_enter Tryd.func25, Tryd.ntmps25
  go_wp2
  exact bodyPost_ret (v := .agg #[.string ⟨#[]⟩, .string ⟨#[]⟩, .bool true]) (by simp [results, Tryd.results25, go_sem]) rfl ⟨rfl, bnew w _⟩

/-- A list of entries in the variable at vb, its row laid from B on. -/
structure LstE (B : Nat) (vb : Nat) (l : List En) (X : World) : Prop where
  ex : ∃ v, X.heap[vb]? = some (.cells #[v] 31 (0, 0)) ∧ X.ownsRow B 39 5 v l.length (entCells l)

theorem ownsRow_own {A B' : World} {row : Option Nat} {base : Nat} {e : TypeId} {size : Nat} {v : Value} {n : Nat} {xs : List Value} (h : A.ownsRow base e size v n xs) (hg : A.grownBy B' row) (hr : ∀ r, row = some r → ∃ o : Obj, A.heap[r]? = some o ∧ o.isCells = false) : B'.ownsRow base e size v n xs := by
  refine ⟨h.1, ?_⟩
  rcases h.2 with hn | ⟨g, cap, cur, rfl, hb, hgk, r⟩
  · exact .inl hn
  · exact .inr ⟨g, cap, cur, rfl, hb, cells_own hgk hg hr, r⟩
theorem LstE.own {B vb : Nat} {l : List En} {A X : World} {row : Option Nat} (h : LstE B vb l A) (hg : A.grownBy X row) (hr : ∀ r, row = some r → ∃ o : Obj, A.heap[r]? = some o ∧ o.isCells = false) : LstE B vb l X := by
  obtain ⟨v, h1, h2⟩ := h.ex
  exact ⟨v, cells_own h1 hg hr, ownsRow_own h2 hg hr⟩

/-- The block of a row of entries. -/
theorem row_blk {X : World} {B n : Nat} {v : Value} {xs : List Value} (h : X.ownsRow B 39 5 v n xs) {r : Nat} (hr : v.ownBlock = some r) : B ≤ r ∧ ∃ cs, X.heap[r]? = some (.cells cs 39 (0, 0)) := by
  rcases h.2 with ⟨rfl, -⟩ | ⟨g, cap, cur, rfl, hb, hgk, -⟩
  · cases hr
  · cases hr; exact ⟨hb, _, hgk⟩

/-- One entry more. -/
theorem lst_step {w X X1 : World} {vb C : Nat} {l : List En} {x : En} {v v' : Value} {o : Obj} (hB : Below w.heap.size w X) (hvb : w.heap.size ≤ vb) (h1 : X.heap[vb]? = some (.cells #[v] 31 (0, 0))) (h2 : X.ownsRow w.heap.size 39 5 v l.length (entCells l))
    (ho : X1.ownsRow w.heap.size 39 5 v' (l.length + 1) (entCells l ++ entVals x)) (hg : (X.alloc o).grownBy X1 v.ownBlock) :
    X1.heap[vb]? = some (.cells #[v] 31 (0, 0)) ∧ LstE w.heap.size vb (l ++ [x]) (X1.setCell ⟨vb, 0, none⟩ v') ∧ Below w.heap.size w (X1.setCell ⟨vb, 0, none⟩ v') ∧ KeepsFrom C X (X1.setCell ⟨vb, 0, none⟩ v') ∧ KpT X (X1.setCell ⟨vb, 0, none⟩ v') := by
  have hne : some vb ≠ v.ownBlock := fun e => by
    obtain ⟨-, cs, h3⟩ := row_blk h2 e.symm
    rw [h1] at h3; simp at h3
  have hvb1 : X1.heap[vb]? = some (.cells #[v] 31 (0, 0)) := by
    rw [hg.block vb (by have := lt_of_blk h1; simp; omega) hne]
    exact blk_on h1 (bnew _ _)
  have st : ∀ T, T ≠ 39 → T ≠ 31 → Stay T X (X1.setCell ⟨vb, 0, none⟩ v') := fun T n1 n2 => by
    refine (((Stay.refl T X).alloc o).grown hg ?_).setCell _ (fun cs e => by dsimp only at e; rw [hvb1] at e; simp at e; exact n2 e.2.symm)
    intro r e cs hcs
    obtain ⟨-, cs', h3⟩ := row_blk h2 e
    rw [blk_on h3 (bnew _ _)] at hcs
    simp at hcs
    exact n1 hcs.2.symm
  refine ⟨hvb1, ⟨v', by rw [heap_setCell_same X1 vb 0 _ _ v' hvb1]; rfl, ?_⟩, ?_, ?_, st _ (by decide) (by decide), st _ (by decide) (by decide), st _ (by decide) (by decide)⟩
  · rw [List.length_append, entCells_append]
    have hx : entCells [x] = entVals x := by simp [entCells]
    rw [hx]
    refine ownsRow_keep (S := fun i => i = vb) ho ((Keeps.refl (fun i => i = vb) X1).setCell (p := ⟨vb, 0, none⟩) (fun _ => rfl) _) (fun j e1 e2 => ?_)
    subst e2
    obtain ⟨-, cs, h3⟩ := row_blk ho e1
    rw [hvb1] at h3; simp at h3
  · exact (((hB.alloc hB.size o).grown hg (by have := hB.size; simp; omega) (fun j e => (row_blk h2 e).1)).setCell (p := ⟨vb, 0, none⟩) hvb _)
  · have k1 : KeepsFrom C (X.alloc o) X1 := ⟨hg.size, fun i ob _ hi hob => (hg.block i (Array.getElem?_eq_some_iff.1 hi).1 (fun e => by
      obtain ⟨-, cs, h3⟩ := row_blk h2 e.symm
      rw [blk_on h3 (bnew _ _)] at hi
      injection hi with hi
      subst hi
      cases hob)).trans hi⟩
    exact ((KeepsFrom.of_grownBy (World.grownBy_alloc X o none) (fun j e => by cases e)).trans k1).trans ((KeepsOthers.setCell _ _ _).from _)

set_option maxHeartbeats 8000000 in
set_option maxRecDepth 100000 in
theorem held_any {w : World} {sb g tb : Nat} {nd ck : Int} {Ls : List En} (h : Sto w sb g tb nd ck Ls) (hl : Ls.length ≤ 1000000) :
    Calls Tryd.prog 14 #[.pointer (some ⟨sb, 0, none⟩)] w fun r w' => ∃ v, r = .returned (.tuple #[v, .bool true]) ∧ w'.ownsRow w.heap.size 39 5 v Ls.length (entCells Ls) ∧ Below w.heap.size w w' := by
  have CW := aside (whole_any w)
  have CA := aside (fun (W : World) (b : Below w.heap.size w W) => qall ⟨#[]⟩ ⟨#[]⟩ true (h.below b) hl)
  rw [chk_whole, thru_whole] at CA
  have hfn : ∀ (lb : Array Value), Hid (∀ w, (binOp .eql 70 (.func (.func 69) #[] lb) .nilFunc).run Tryd.prog w = .ok (.bool false) w) := fun lb w => rfl
  clear h hl
  refine (callsIn_wide (n := 5)).1 ?_
  refine callsIn_of_wp_marks Tryd.func14 rfl trivial ?_ rfl
  simp only [Tryd.ntmps14, List.size_toArray, List.length_cons, List.length_nil, Nat.reduceAdd, Nat.reduceSub, Array.replicate_succ, Array.replicate_zero, List.push_toArray, List.append_toArray, List.nil_append, List.cons_append]
  gi_wp2_with fail
  refine ⟨trivial, ?_⟩
  refine (callsIn_wide.2 CW.out).mono ?_
  rintro e w1 ⟨rfl, b1⟩
  have B1 := aside b1
  clear b1 CW
  gi_wp2_with fail
  refine ⟨trivial, ?_⟩
  refine (callsIn_wide.2 (CA.out _ B1.out)).mono ?_
  rintro e w2 ⟨b2, ⟨h0, -⟩ | ⟨-, lb, rfl, hs⟩⟩
  · exact absurd rfl h0
  have HS := aside hs
  have B2 := aside (bthen B1.out b2)
  have hff := (hfn lb).out
  clear hs b2 CA B1 hfn
  gi_wp2_with fail
  clear hff
  have b3 := bnew w2 (.cells #[.slice none 0 0] 31)
  have B3 := aside (bthen B2.out b3)
  obtain ⟨N, hN, hNl, hSq⟩ := HS.out
  have SQ := aside hSq
  have HNN := aside hN
  have I0 := aside (show LstE w.heap.size w2.heap.size [] (w2.alloc (.cells #[.slice none 0 0] 31)) from ⟨.slice none 0 0, heap_alloc_new w2 _, ⟨rfl, .inl ⟨rfl, rfl⟩⟩⟩)
  have HVB := aside (show w.heap.size ≤ w2.heap.size from B2.out.size)
  have BV := aside b3
  clear b3 hN hNl hSq HS
  generalize w2.alloc (.cells #[.slice none 0 0] 31) = V at *
  have HVV := aside (show w.heap.size ≤ V.heap.size from B3.out.size)
  have ownI : OwnFrom V.heap.size (fun (pre : List En) X => LstE w.heap.size w2.heap.size pre X ∧ Below w.heap.size w X) := fun s A Y row hs hg hr =>
    ⟨hs.1.own hg (fun r e => (hr r e).2), ownFrom_below (β := Unit) (Nat.le_refl w.heap.size) HVV.out () A Y row hs.2 hg hr⟩
  obtain ⟨vb, hvb⟩ : ∃ vb, w2.heap.size = vb := ⟨_, rfl⟩
  rw [hvb] at I0 HVB ownI ⊢
  refine rangeO rfl (enters_of Tryd.func69 (by kernel_rfl) rfl) SQ.out KpT.t (fun W l o o' _ h ho => KpT.b W l o o' h ho) BV.out (fun _ => rfl)
    (fun (pre : List En) X => LstE w.heap.size vb pre X ∧ Below w.heap.size w X) (fun _ _ _ => False) ownI (fun _ _ _ _ _ h => h.elim) ⟨I0.out, B3.out⟩
    (fun x a' X => ∃ eb : Nat, a' = ⟨#[.pointer (some ⟨sb, 0, none⟩), undef, .slice none 0 0, .bool false, .func (.func 69) #[] lb, .int .i64 0, .pointer (some ⟨vb, 0, none⟩), .pointer (some ⟨eb, 0, none⟩), .tuple #[.func (.func 69) #[] lb, .int .i64 0], .pointer (some ⟨sb, 0, none⟩), .agg #[.string ⟨#[]⟩, .string ⟨#[]⟩, .bool true], .tuple #[.func (.func 69) #[] lb, .int .i64 0], .func (.func 69) #[] lb, .int .i64 0, .int .i64 0, .bool false, .bool false, .func (.func 69) #[] lb, .bool false, .bool false, .func (.func 69) #[] lb, .agg #[.string x.k, .int .i64 x.c, .int .i64 x.n, .string x.v, .bool x.d], undef, undef, undef, undef, undef], []⟩ ∧ X.heap[eb]? = some (.cells #[.string x.k, .int .i64 x.c, .int .i64 x.n, .string x.v, .bool x.d] 39 (0, 0)))
    (fun x a' _ A Y row hs hg hr => by
      obtain ⟨eb, h1, h2⟩ := hs
      exact ⟨eb, h1, cells_own h2 hg (fun r e => (hr r e).2)⟩) ?assign ?body ?done ?stop
  case assign =>
    intro l' pre x X K hi hK
    dsimp only [encE]
    gi_wp2
    refine hK _ _ ?_ ?_ ?_ ⟨_, rfl, heap_alloc_new X _⟩
    · exact KeepsFrom.of_grownBy (World.grownBy_alloc X _ none) (fun j e => by cases e)
    · exact (KpT.refl X).alloc _
    · exact ownI.alloc _ hi
  case body =>
    rintro l' pre x a' X ⟨hls, hbx⟩ ⟨eb, rfl, he⟩ hlen
    obtain ⟨v, hv, ho⟩ := hls.ex
    obtain ⟨i0, hi0, hz0, hz1, hz2⟩ := info_parts infoEnt
    obtain ⟨e0, e1, e2, e3, e4, -⟩ := penta he
    have v0 := cell_one hv
    have HV := aside hv
    have HO := aside ho
    have HB := aside hbx
    have HLN := aside (show pre.length ≤ 1000000 from by have := HNN.out; omega)
    have HI := aside hi0
    clear hls hv ho hbx he hlen hi0
    gi_wp2_with (gi_at_builtin; go_loud (refine wpListIn_append_own _ rfl _ _ _ rfl w.heap.size 39 i0 (.agg #[.string ⟨#[]⟩, .int .i64 0, .int .i64 0, .string ⟨#[]⟩, .bool false]) 5 56 Tryd.underlying31 HI.out hz0 hz1 hz2 rfl (by decide) v pre.length (entCells pre) (by rfl) (HO.out.alloc _) ⟨X.heap.size, 0, none⟩ 1 1 (entVals x) (by rfl) (by rfl) (World.news_of_block (cs := #[.string x.k, .int .i64 x.c, .int .i64 x.n, .string x.v, .bool x.d]) (t := 39) (fr := (0, 0)) (heap_alloc_new X _)) (by intro u hu; exact entCells_one [x] u (by simpa [entCells] using hu)) (by have := HLN.out; unfold maxLen; omega) (by have := HLN.out; omega) (by have := HB.out.size; simp; omega) ?_); intro v' X1 hown1 hgrow hiff; refine Hid.out ?_)
    refine aside ?_
    obtain ⟨g', cap', rfl⟩ : ∃ g' cap', v' = .slice (some ⟨g', 0, none⟩) (pre.length + 1) cap' := by
      rcases hown1.2 with ⟨_, h⟩ | ⟨g', cap', cur, e, _⟩
      · omega
      · exact ⟨g', cap', e⟩
    have ST := aside (lst_step (x := x) (C := V.heap.size) HB.out HVB.out HV.out HO.out hown1 hgrow)
    have v1 := cell_one ST.out.1
    have z1 := frozen_one ST.out.1
    clear hown1 hgrow hiff v0 e0 e1 e2 e3 e4
    gi_wp2
    exact ⟨ST.out.2.2.2.1, ST.out.2.2.2.2, ST.out.2.1, ST.out.2.2.1⟩
  case done =>
    rintro D xs X hD rfl ⟨hls, hbx⟩ hK
    obtain ⟨v, hv, ho⟩ := hls.ex
    have v0 := cell_one hv
    have FO := aside (ownsRow_own ho (grownBy_putObj' X D (.deferred none)) (fun r e => by cases e; exact ⟨_, hK, rfl⟩))
    have FB := aside (ownFrom_below (β := Unit) (Nat.le_refl w.heap.size) HVV.out () X _ (some D) hbx (grownBy_putObj' X D (.deferred none)) (fun r e => by cases e; exact ⟨hD, _, hK, rfl⟩))
    clear hls hbx hv ho
    gi_wp2
    refine ⟨by simp, .inl ⟨_, _, rfl, run_takeDeferred hK, ?_⟩⟩
    exact ⟨.tuple #[v, .bool true], by simp [results, Tryd.f14, go_sem], ⟨v, rfl, FO.out, FB.out⟩⟩
  case stop =>
    rintro D c pre X hD _ h
    exact h.elim

end Go.Proofs.YtlgcdcjhflihiaaDoor
namespace Go.Proofs.YtlgcdcjhflihiaaDoor
open Go.ChangeShapes Go.WideShapes Go.ChangeAt Go.RowKit
set_option linter.unusedVariables false
variable {H : Type} {enc : TypeId × Value → H} {W : World}
theorem array5 {α : Type} {cs : Array α} (h : cs.size = 5) : ∃ c0 c1 c2 c3 c4, cs = #[c0, c1, c2, c3, c4] := by
  obtain ⟨l⟩ := cs
  match l, h with
  | [c0, c1, c2, c3, c4], _ => exact ⟨c0, c1, c2, c3, c4, rfl⟩

set_option maxRecDepth 100000 in
/-- An entry's five cells, from their reading. -/
theorem ent_cells {b0 : Nat} {sp : Nat → Bool} {held : Bool} {fuel : Nat} {v0 v1 v2 v3 v4 : Value} {x : DataW H × List MemPlace} (h : DataW.trod enc Tryd.prog W b0 sp held fuel 39 [v0, v1, v2, v3, v4] = some x) :
    ∃ (k : ByteArray) (c n : Int) (v : ByteArray) (d : Bool), v0 = .string k ∧ v1 = .int .i64 c ∧ v2 = .int .i64 n ∧ v3 = .string v ∧ v4 = .bool d ∧
      ((-9223372036854775808 ≤ c ∧ c ≤ 9223372036854775807) ∧ (-9223372036854775808 ≤ n ∧ n ≤ 9223372036854775807)) ∧ k.size ≤ maxLen ∧ v.size ≤ maxLen ∧
      x.1 = .agg [.lit (.string k.data.toList), .agg [.lit (.int .i64 c), .lit (.int .i64 n)], .lit (.string v.data.toList), .lit (.bool d)] := by
  obtain ⟨y0, y1, y2, y3, m, rfl, _, h0, h1, h2, h3⟩ := Joins.trod_struct4 Tryd.underlying39 h
  simp [cellsStr, cellsBool, cellsVer] at h0 h1 h2 h3
  obtain ⟨z0, z1, m', rfl, _, g0, g1⟩ := trod_struct2 Tryd.underlying37 h1
  simp [cellsInt] at g0 g1
  obtain ⟨k, e0, rfl, w0⟩ := DataW.trod_string Tryd.underlying9 h0
  obtain ⟨c, e1, rfl, w1⟩ := DataW.trod_int Tryd.underlying3 g0
  obtain ⟨n, e2, rfl, w2⟩ := DataW.trod_int Tryd.underlying3 g1
  obtain ⟨v, e3, rfl, w3⟩ := DataW.trod_string Tryd.underlying9 h2
  obtain ⟨d, e4, rfl⟩ := DataW.trod_bool Tryd.underlying4 h3
  simp only [List.cons.injEq, and_true] at e0 e1 e2 e3 e4
  exact ⟨k, c, n, v, d, e0, e1, e2, e3, e4, ⟨bounds_i64 w1, bounds_i64 w2⟩, w0, w3, rfl⟩

set_option maxRecDepth 100000 in
theorem open_ent {b0 : Nat} {sp : Nat → Bool} {held : Bool} {v : Value} {d : DataW H} {p : List MemPlace} (hv : Value.okWide Tryd.prog W .any b0 39 v) (h : DataW.Trod enc Tryd.prog W 0 sp held 39 v d p) :
    ∃ (k : ByteArray) (c n : Int) (v' : ByteArray) (d' : Bool), v = .agg #[.string k, .int .i64 c, .int .i64 n, .string v', .bool d'] ∧
      ((-9223372036854775808 ≤ c ∧ c ≤ 9223372036854775807) ∧ (-9223372036854775808 ≤ n ∧ n ≤ 9223372036854775807)) ∧ k.size ≤ maxLen ∧ v'.size ≤ maxLen ∧
      d = .agg [.lit (.string k.data.toList), .agg [.lit (.int .i64 c), .lit (.int .i64 n)], .lit (.string v'.data.toList), .lit (.bool d')] := by
  obtain ⟨cs, rfl, hsz⟩ := okWide_struct Tryd.underlying39 hv
  obtain ⟨c0, c1, c2, c3, c4, rfl⟩ := array5 (hsz.trans cellsEnt)
  obtain ⟨fuel, hf⟩ := h
  obtain ⟨k, c, n, v, d, rfl, rfl, rfl, rfl, rfl, hb, hk, hv, hd⟩ := ent_cells (x := (d, p)) (by simpa [Value.cells] using hf)
  exact ⟨k, c, n, v, d, rfl, hb, hk, hv, hd⟩

set_option maxRecDepth 100000 in
/-- An entry's key is of a size that memory has. -/
theorem ent_size {d : DataW H} {k v : ByteArray} {c n : Int} {b : Bool} (hd : d = .agg [.lit (.string k.data.toList), .agg [.lit (.int .i64 c), .lit (.int .i64 n)], .lit (.string v.data.toList), .lit (.bool b)])
    (hz : ∀ m ∈ d.weights Tryd.prog 39, m ≤ reachBytes) : k.size ≤ 140737488351232 := by
  have := hz k.data.toList.length (by rw [hd]; simp [DataW.weights, Tryd.underlying39, DataW.weightsEach])
  have e : k.data.toList.length = k.size := by show k.data.toList.length = k.data.size; simp
  rw [e] at this
  exact this

theorem weights_all {P : Program} {e : TypeId} : ∀ {ds : List (DataW H)} {d : DataW H}, d ∈ ds → ∀ n ∈ d.weights P e, n ∈ DataW.weightsAll P e ds
  | d0 :: r, d, hd, n, hn => by
    simp only [DataW.weightsAll, List.mem_append]
    rcases List.mem_cons.1 hd with rfl | hd
    · exact Or.inl hn
    · exact Or.inr (weights_all hd n hn)
  | [], _, hd, _, _ => by simp at hd

set_option maxHeartbeats 1000000 in
theorem ents_open {fuel : Nat} {a : Option Addr} {len cap : Nat} {d : DataW H} {ps : List MemPlace}
    (hf : DataW.trod enc Tryd.prog W 0 (fun _ => true) true fuel 31 [.slice a len cap] = some (d, ps)) (hz : ∀ n ∈ d.weights Tryd.prog 31, n ≤ reachBytes) :
    ∃ T, EntsIn W a len cap T ∧ ((a = none ∧ len = 0 ∧ cap = 0) ∨ ∃ y, a = some y) ∧ len * 56 ≤ 140737488351232 := by
  rcases Deep.open_slice Tryd.underlying31 hf with ⟨hcs, _⟩ | ⟨x, l, c, m, n, D, Pl, hcs, hb, hl, hm, hmm, hx, hel⟩
  · simp only [List.cons.injEq, Value.slice.injEq, and_true] at hcs
    obtain ⟨rfl, rfl, rfl⟩ := hcs
    exact ⟨fun _ => ⟨ByteArray.empty, 0, 0, ByteArray.empty, false⟩, ⟨Nat.le_refl _, Nat.zero_le _, .inl rfl⟩, .inl ⟨rfl, rfl, rfl⟩, by omega⟩
  · simp only [List.cons.injEq, Value.slice.injEq, and_true] at hcs
    obtain ⟨rfl, rfl, rfl⟩ := hcs
    simp only [Prod.mk.injEq] at hx
    have hd := hx.1
    simp only [if_true] at hmm
    subst hmm
    rw [cellsEnt] at hel
    have hbytes : len * 56 ≤ 140737488351232 := by
      have h1 := hz _ (by rw [hd]; simp only [DataW.weights, Tryd.underlying31]; exact List.mem_cons_self)
      rw [bytesEnt] at h1
      simp only [List.length_map, List.length_range] at h1
      have : reachBytes = 140737488351232 := by decide
      omega
    have each : ∀ i, i < len → ∃ t : En, (W.cell? (x.add (i * 5)) = some (.string t.k) ∧ W.cell? (x.add (i * 5 + 1)) = some (.int .i64 t.c) ∧ W.cell? (x.add (i * 5 + 2)) = some (.int .i64 t.n) ∧ W.cell? (x.add (i * 5 + 3)) = some (.string t.v) ∧ W.cell? (x.add (i * 5 + 4)) = some (.bool t.d)) ∧ t.k.size ≤ 140737488351232 := by
      intro i hi
      obtain ⟨cs', h1, h2⟩ := hel i (by omega)
      obtain ⟨_, hlen, hcell⟩ := World.cells?_some h1
      match cs', hlen with
      | [v0, v1, v2, v3, v4], _ =>
        obtain ⟨k, c, n, v, d', rfl, rfl, rfl, rfl, rfl, _, _, _, hdi⟩ := ent_cells h2
        have c0 := hcell 0 (by omega)
        have c1 := hcell 1 (by omega)
        have c2 := hcell 2 (by omega)
        have c3 := hcell 3 (by omega)
        have c4 := hcell 4 (by omega)
        rw [Deep.add_add] at c0 c1 c2 c3 c4
        refine ⟨⟨k, c, n, v, d'⟩, ⟨by simpa using c0, by simpa using c1, by simpa using c2, by simpa using c3, by simpa using c4⟩, ?_⟩
        refine ent_size hdi (fun m' hm' => hz m' ?_)
        rw [hd]
        simp only [DataW.weights, Tryd.underlying31]
        exact List.mem_cons_of_mem _ (List.mem_append_left _ (weights_all (d := D i) (List.mem_map.2 ⟨i, List.mem_range.2 hi, rfl⟩) _ hm'))
    by_cases h0 : len = 0
    · exact ⟨fun _ => ⟨ByteArray.empty, 0, 0, ByteArray.empty, false⟩, ⟨hl, hm, .inl h0⟩, .inr ⟨_, rfl⟩, hbytes⟩
    · letI : Inhabited En := ⟨⟨ByteArray.empty, 0, 0, ByteArray.empty, false⟩⟩
      obtain ⟨T, hT⟩ := Deep.choose_lt each
      have hc0 := (hT 0 (by omega)).1.1
      obtain ⟨blk, off, spot⟩ := x
      have hspot : spot = none := by
        have := World.cell?_spot hc0
        simpa [Addr.add] using this
      subst hspot
      have hblk : blk < W.heap.size := by
        have := World.block_lt_of_cell? W _ hc0
        simpa [Addr.add] using this
      have hadd : ∀ j, (⟨blk, off, none⟩ : Addr).add j = ⟨blk, off + j, none⟩ := by intro j; unfold Addr.add; split <;> simp_all
      refine ⟨T, ⟨hl, hm, .inr ⟨blk, off, rfl, hblk, fun i hi => ⟨?_, (hT i hi).2⟩⟩⟩, .inr ⟨_, rfl⟩, hbytes⟩
      have h5 := (hT i hi).1
      simp only [hadd] at h5
      simpa only [Nat.add_assoc] using h5

end Go.Proofs.YtlgcdcjhflihiaaDoor
namespace Go.Proofs.YtlgcdcjhflihiaaDoor
open Go.ChangeShapes Go.WideShapes Go.ChangeAt Go.RowKit
set_option linter.unusedVariables false

/-- A list of whole numbers that came in. -/
def IntsIn (w : World) (a : Option Addr) (len cap : Nat) (z : Nat → Int) : Prop :=
  len ≤ cap ∧ cap ≤ maxLen ∧ (len = 0 ∨ ∃ b off, a = some ⟨b, off, none⟩ ∧ b < w.heap.size ∧ ∀ i, i < len → w.cell? ⟨b, off + i, none⟩ = some (.int .i64 (z i)))

theorem IntsIn.keep {w w' : World} {a : Option Addr} {len cap : Nat} {T : Nat → Int} (h : IntsIn w a len cap T) (k : Below w.heap.size w w') : IntsIn w' a len cap T := by
  obtain ⟨h1, h2, h4⟩ := h
  refine ⟨h1, h2, ?_⟩
  rcases h4 with h4 | ⟨bb, off, rfl, hb, hc⟩
  · exact .inl h4
  · exact .inr ⟨bb, off, rfl, by have := k.size; omega, fun i hi => cell_in (hc i hi) k⟩

variable {H : Type} {enc : TypeId × Value → H} {W : World}

set_option maxHeartbeats 1000000 in
theorem ints_open {fuel : Nat} {a : Option Addr} {len cap : Nat} {d : DataW H} {ps : List MemPlace}
    (hf : DataW.trod enc Tryd.prog W 0 (fun _ => true) true fuel 59 [.slice a len cap] = some (d, ps)) :
    ∃ T, IntsIn W a len cap T := by
  rcases Deep.open_slice Tryd.underlying59 hf with ⟨hcs, _⟩ | ⟨x, l, c, m, n, D, Pl, hcs, hb, hl, hm, hmm, hx, hel⟩
  · simp only [List.cons.injEq, Value.slice.injEq, and_true] at hcs
    obtain ⟨rfl, rfl, rfl⟩ := hcs
    exact ⟨fun _ => 0, Nat.le_refl _, Nat.zero_le _, .inl rfl⟩
  · simp only [List.cons.injEq, Value.slice.injEq, and_true] at hcs
    obtain ⟨rfl, rfl, rfl⟩ := hcs
    simp only [if_true] at hmm
    subst hmm
    rw [cellsInt] at hel
    have each : ∀ i, i < len → ∃ t : Int, W.cell? (x.add i) = some (.int .i64 t) := by
      intro i hi
      obtain ⟨cs', h1, h2⟩ := hel i (by omega)
      obtain ⟨_, hlen, hcell⟩ := World.cells?_some h1
      match cs', hlen with
      | [v0], _ =>
        obtain ⟨t, e0, _, _⟩ := DataW.trod_int Tryd.underlying3 h2
        simp only [List.cons.injEq, and_true] at e0
        subst e0
        have c0 := hcell 0 (by omega)
        rw [Deep.add_add] at c0
        exact ⟨t, by simpa using c0⟩
    by_cases h0 : len = 0
    · exact ⟨fun _ => 0, hl, hm, .inl h0⟩
    · obtain ⟨T, hT⟩ := Deep.choose_lt each
      have hc0 := hT 0 (by omega)
      obtain ⟨blk, off, spot⟩ := x
      have hspot : spot = none := by
        have := World.cell?_spot hc0
        simpa [Addr.add] using this
      subst hspot
      have hblk : blk < W.heap.size := by
        have := World.block_lt_of_cell? W _ hc0
        simpa [Addr.add] using this
      have hadd : ∀ j, (⟨blk, off, none⟩ : Addr).add j = ⟨blk, off + j, none⟩ := by intro j; unfold Addr.add; split <;> simp_all
      refine ⟨T, hl, hm, .inr ⟨blk, off, rfl, hblk, fun i hi => ?_⟩⟩
      have h5 := hT i hi
      simpa only [hadd] using h5

set_option maxHeartbeats 1600000 in
theorem among8 (p : Int) (m : Nat) (w : World) (hm : 0 < m) (hx : (m : Int) ≤ 9223372036854775807) :
    Calls Tryd.prog 13 #[.int .i64 p, .int .i64 (m : Int)] w fun e w' => ∃ k : Nat, e = .returned (.int .i64 (k : Int)) ∧ k < m ∧ w' = w := by
  have h1 : ¬ (m : Int) < 1 := by omega
  have hne : (m : Int) ≠ 0 := by omega
  have hlo : -(m : Int) < p.tmod m := by
    have := Int.lt_tmod_of_pos p (show (0 : Int) < m by omega)
    omega
  have hhi : p.tmod m < (m : Int) := Int.tmod_lt_of_pos p (by omega)
  have hnm : ¬ (m : Int) = -1 := by omega
  generalize hr : p.tmod m = r at *
  by_cases hneg : r < 0
  · have hw : IntKind.i64.wrap (r + (m : Int)) = r + (m : Int) := by rw [IntKind.wrap_i64]; omega
    go_enter Tryd.func13, Tryd.ntmps13
    go_wp2
    go_ret
    exact ⟨(r + m).toNat, by rw [show (((r + m).toNat : Nat) : Int) = r + m from by omega]; rfl, by omega, rfl⟩
  · go_enter Tryd.func13, Tryd.ntmps13
    go_wp2
    go_ret
    exact ⟨r.toNat, by rw [show ((r.toNat : Nat) : Int) = r from by omega]; rfl, by omega, rfl⟩

/-- An owned row's slice, in letters. -/
theorem own_slc {w : World} {B : Nat} {e : TypeId} {s : Nat} {v : Value} {n : Nat} {xs : List Value} (h : w.ownsRow B e s v n xs) : ∃ a c, v = .slice a n c ∧ n ≤ c ∧ c ≤ maxLen ∧ ((a = none ∧ n = 0 ∧ c = 0) ∨ ∃ g, a = some ⟨g, 0, none⟩ ∧ B ≤ g) := by
  rcases h.2 with ⟨rfl, rfl⟩ | ⟨g, cap, cur, rfl, hb, _, hn, hm, _⟩
  · exact ⟨none, 0, rfl, Nat.le_refl _, Nat.zero_le _, .inl ⟨rfl, rfl, rfl⟩⟩
  · exact ⟨_, cap, rfl, hn, hm, .inr ⟨g, rfl, hb⟩⟩

/-- Numbers as cells. -/
def numCells (l : List Nat) : List Value := l.map fun (i : Nat) => Value.int .i64 (i : Int)

theorem numCells_len (l : List Nat) : (numCells l).length = l.length := by simp [numCells]
theorem numCells_app (l m : List Nat) : numCells (l ++ m) = numCells l ++ numCells m := by simp [numCells]
theorem numCells_one (l : List Nat) : ∀ u ∈ numCells l, u.oneCell' = true := by
  intro u hu
  unfold numCells at hu
  obtain ⟨i, _, rfl⟩ := List.mem_map.1 hu
  rfl
theorem numCells_set (l : List Nat) (j i : Nat) : numCells (l.set j i) = (numCells l).set j (.int .i64 (i : Int)) := by simp [numCells, List.map_set]

theorem infoInt : (Tryd.prog.info? 3).map (fun i => (i.zero, i.size, i.bytes)) = some (some (.int .i64 0), 1, 8) := by kernel_rfl

def nthN (l : List Nat) (i : Nat) : Nat := l.getD i 0
theorem nthN_get {l : List Nat} {i : Nat} (h : i < l.length) : l[i]? = some (nthN l i) := by
  unfold nthN
  rw [List.getD_eq_getElem?_getD, List.getElem?_eq_getElem h]
  rfl

theorem num_at {w : World} {B g cap n : Nat} {l : List Nat} (h : w.ownsRow B 3 1 (.slice (some ⟨g, 0, none⟩) n cap) n (numCells l)) {i : Nat} (hi : i < l.length) : w.cell? ⟨g, i, none⟩ = some (.int .i64 (nthN l i : Int)) := by
  obtain ⟨hl, h1⟩ := h
  rcases h1 with ⟨h1, -⟩ | ⟨g', cap', cur, h1, h2, h3, h4, h5, h6, h7⟩
  · cases h1
  · cases h1
    have hn : l.length = n := by rw [numCells_len] at hl; omega
    have hcell : w.cell? ⟨g, i, none⟩ = cur[i]? := by simp [World.cell?, h3]
    rw [hcell]
    have e : (cur.toList.take (n * 1))[i]? = cur[i]? := by rw [List.getElem?_take, if_pos (by omega)]; simp
    rw [← e, h7]
    unfold numCells
    rw [List.getElem?_map, nthN_get hi]
    rfl

theorem num_put {w : World} {B g n cap j i : Nat} {l : List Nat} (h : w.ownsRow B 3 1 (.slice (some ⟨g, 0, none⟩) n cap) n (numCells l)) :
    (w.setCell ⟨g, j, none⟩ (.int .i64 (i : Int))).ownsRow B 3 1 (.slice (some ⟨g, 0, none⟩) n cap) n (numCells (l.set j i)) := by
  rw [numCells_set]
  exact (h.stored j _).1

/-- Two places of a list changed about. -/
def swapN (l : List Nat) (i k : Nat) : List Nat := (l.set i (nthN l k)).set k (nthN l i)
theorem swapN_length (l : List Nat) (i k : Nat) : (swapN l i k).length = l.length := by simp [swapN]
theorem mem_swapN {l : List Nat} {i k : Nat} (hi : i < l.length) (hk : k < l.length) (x : Nat) : x ∈ swapN l i k ↔ x ∈ l := by
  have e : ∀ {l : List Nat} {x : Nat}, x ∈ l ↔ ∃ j, j < l.length ∧ nthN l j = x := by
    intro l x
    rw [List.mem_iff_getElem]
    constructor
    · rintro ⟨j, hj, rfl⟩
      exact ⟨j, hj, by unfold nthN; rw [List.getD_eq_getElem?_getD, List.getElem?_eq_getElem hj]; rfl⟩
    · rintro ⟨j, hj, rfl⟩
      exact ⟨j, hj, by unfold nthN; rw [List.getD_eq_getElem?_getD, List.getElem?_eq_getElem hj]; rfl⟩
  have n : ∀ j, j < l.length → nthN (swapN l i k) j = if j = k then nthN l i else if j = i then nthN l k else nthN l j := by
    intro j hj
    have : (swapN l i k)[j]? = some (if j = k then nthN l i else if j = i then nthN l k else nthN l j) := by
      unfold swapN
      simp only [List.getElem?_set, List.length_set]
      by_cases h1 : k = j
      · subst h1
        rw [if_pos rfl, if_pos hk, if_pos rfl]
      · have h1' : ¬ j = k := fun h => h1 h.symm
        simp only [h1, h1', if_false]
        by_cases h2 : i = j
        · subst h2
          rw [if_pos rfl, if_pos hi, if_pos rfl]
        · have h2' : ¬ j = i := fun h => h2 h.symm
          simp only [h2, h2', if_false]
          exact nthN_get hj
    unfold nthN at this ⊢
    rw [List.getD_eq_getElem?_getD, this]
    rfl
  rw [e, e, swapN_length]
  constructor
  · rintro ⟨j, hj, rfl⟩
    rw [n j hj]
    split
    · exact ⟨i, hi, rfl⟩
    · split
      · exact ⟨k, hk, rfl⟩
      · exact ⟨j, hj, rfl⟩
  · rintro ⟨j, hj, rfl⟩
    by_cases h1 : j = i
    · subst h1; exact ⟨k, hk, by rw [n k hk, if_pos rfl]⟩
    · by_cases h2 : j = k
      · subst h2
        exact ⟨i, hi, by rw [n i hi, if_neg (fun h => h1 h.symm), if_pos rfl]⟩
      · exact ⟨j, hj, by rw [n j hj, if_neg h2, if_neg h1]⟩

/-- One number appended to an owned row, as one operation. -/
theorem op_append_num {w : World} {o : Oper} {act : Act} {K : Act → World → Prop} {Q : Exit → Act → World → Prop} (s x : Operand)
    (ho : o.op = .call { callee := .builtin .append, args := #[s, x], argTypes := #[59, 59] })
    (B n : Nat) (v : Value) (l : List Nat) (hs : act.eval s = v) (hown : w.ownsRow B 3 1 v n (numCells l)) (b c : Nat) (e : Nat) (hx : act.eval x = .slice (some ⟨b, 0, none⟩) 1 c)
    (hb : w.heap[b]? = some (.cells #[.int .i64 (e : Int)] 3 (0, 0))) (hlen : n * 56 ≤ 140737488351232) (hB : B ≤ w.heap.size)
    (h : ∀ g cap w', w'.ownsRow B 3 1 (.slice (some ⟨g, 0, none⟩) (n + 1) cap) (n + 1) (numCells (l ++ [e])) → w.grownBy w' v.ownBlock → K (act.put o.dst (.slice (some ⟨g, 0, none⟩) (n + 1) cap)) w') : o.wp Tryd.prog act w K Q := by
  obtain ⟨i0, hi, hz0, hz1, hz2⟩ := info_parts infoInt
  refine wp_append_own w s x _ ho B 3 i0 _ 1 8 Tryd.underlying59 hi hz0 hz1 hz2 rfl (by decide) _ _ _ hs hown ⟨b, 0, none⟩ 1 c [.int .i64 (e : Int)] hx rfl ?_ (fun u hu => numCells_one [e] u (by simpa [numCells] using hu)) (by unfold maxLen; omega) (by omega) hB ?_
  · exact World.news_of_block (cs := #[.int .i64 (e : Int)]) (t := 3) (fr := (0, 0)) hb
  · intro v' w' ho' hg _
    have e1 : numCells l ++ [.int .i64 (e : Int)] = numCells (l ++ [e]) := by rw [numCells_app]; simp [numCells]
    rw [e1] at ho'
    rcases ho'.2 with ⟨h1, h2⟩ | ⟨g, cap', cur, rfl, _⟩
    · omega
    · exact h g cap' w' ho' hg

/-- A row that is ours stays while blocks of other types are turned. -/
theorem own_kept {w w' : World} {S : Nat → Prop} {B : Nat} {e : TypeId} {s : Nat} {v : Value} {n : Nat} {xs : List Value} (h : w.ownsRow B e s v n xs) (k : Keeps S w w') (hS : ∀ g cs, w.heap[g]? = some (.cells cs e (0, 0)) → ¬ S g) : w'.ownsRow B e s v n xs := by
  refine ⟨h.1, ?_⟩
  rcases h.2 with h0 | ⟨g, cap, cur, h1, h2, h3, h4⟩
  · exact .inl h0
  · exact .inr ⟨g, cap, cur, h1, h2, blk_keep h3 k (hS g cur h3), h4⟩

end Go.Proofs.YtlgcdcjhflihiaaDoor
namespace Go.Proofs.YtlgcdcjhflihiaaDoor
open Go.RowKit
set_option linter.unusedVariables false

/-- Are two entries the same? -/
def enEqB (a b : En) : Bool := (a.k.toList == b.k.toList) && ((a.c == b.c && a.n == b.n) && ((a.v.toList == b.v.toList) && (a.d == b.d)))

theorem enEqB_iff (a b : En) : enEqB a b = true ↔ a = b := by
  obtain ⟨k, c, n, v, d⟩ := a
  obtain ⟨k', c', n', v', d'⟩ := b
  simp only [enEqB, Bool.and_eq_true, beq_iff_eq, En.mk.injEq]
  constructor
  · rintro ⟨h1, ⟨h2, h3⟩, h4, h5⟩
    exact ⟨toList_inj h1, h2, h3, toList_inj h4, h5⟩
  · rintro ⟨rfl, rfl, rfl, rfl, rfl⟩
    exact ⟨rfl, ⟨rfl, rfl⟩, rfl, rfl⟩
theorem enEqB_same (a : En) : enEqB a a = true := (enEqB_iff a a).2 rfl
theorem enEqB_ne {a b : En} (h : a ≠ b) : enEqB a b = false := by
  cases h2 : enEqB a b
  · rfl
  · exact absurd ((enEqB_iff a b).1 h2) h

theorem verq_run (a n b m : Int) (w : World) : (binOp .eql 37 (.agg #[.int .i64 a, .int .i64 n]) (.agg #[.int .i64 b, .int .i64 m])).run Tryd.prog w = .ok (.bool (a == b && n == m)) w := by
  by_cases h1 : a = b <;> by_cases h2 : n = m
  all_goals
    go_simp
    try simp [h1, h2]
theorem verne_run (a n b m : Int) (w : World) : (binOp .neq 37 (.agg #[.int .i64 a, .int .i64 n]) (.agg #[.int .i64 b, .int .i64 m])).run Tryd.prog w = .ok (.bool (!(a == b && n == m))) w := by
  by_cases h1 : a = b <;> by_cases h2 : n = m
  all_goals
    go_simp
    try simp [h1, h2]

theorem ent_in (a b : En) (w : World) : (Op.equalIn 10000 39 (.agg #[.string a.k, .int .i64 a.c, .int .i64 a.n, .string a.v, .bool a.d]) (.agg #[.string b.k, .int .i64 b.c, .int .i64 b.n, .string b.v, .bool b.d])).run Tryd.prog w = .ok (enEqB a b) w := by
  unfold enEqB
  rw [show (10000 : Nat) = 9999 + 1 from rfl]
  cases h1 : (a.k.toList == b.k.toList) <;> by_cases h2 : a.c = b.c <;> by_cases h5 : a.n = b.n <;> cases h3 : (a.v.toList == b.v.toList) <;> cases h4 : (a.d == b.d)
  all_goals
    go_simp
    try simp [h2, h5]
theorem ent_eq (a b : En) (w : World) : (binOp .eql 39 (.agg #[.string a.k, .int .i64 a.c, .int .i64 a.n, .string a.v, .bool a.d]) (.agg #[.string b.k, .int .i64 b.c, .int .i64 b.n, .string b.v, .bool b.d])).run Tryd.prog w = .ok (.bool (enEqB a b)) w := by
  rw [run_eql_struct, ent_in]; rfl
theorem ent_ne (a b : En) (w : World) : (binOp .neq 39 (.agg #[.string a.k, .int .i64 a.c, .int .i64 a.n, .string a.v, .bool a.d]) (.agg #[.string b.k, .int .i64 b.c, .int .i64 b.n, .string b.v, .bool b.d])).run Tryd.prog w = .ok (.bool (!enEqB a b)) w := by
  rw [run_neq_struct, ent_in]; rfl

end Go.Proofs.YtlgcdcjhflihiaaDoor
namespace Go.Proofs.YtlgcdcjhflihiaaDoor
open Go.RowKit
set_option linter.unusedVariables false

theorem oput (k v : ByteArray) {w : World} {sb g tb : Nat} {nd ck c : Int} {Ls Ls' : List En} (h : Sto w sb g tb nd ck Ls) (L : Lanes w) (hl : Ls.length ≤ 1000000) (he : wrErr k v nd ck Ls = 0) (hc : ck + 1 = c) (hi : insE (wrEn k v false nd ck) Ls = Ls') :
    Calls Tryd.prog 15 #[.pointer (some ⟨sb, 0, none⟩), .string k, .string v] w fun r w' => r = .returned (.tuple #[.agg #[.int .i64 c, .int .i64 nd], .int .i64 0]) ∧ Sto w' sb g tb nd c Ls' ∧ Lanes w' ∧ Keeps (Of sb g tb) w w' := by
  refine (qput k v h L hl).mono ?_
  rintro r w' ⟨c', m, er, rfl, e2, k, l, h1 | h1⟩
  · exact absurd (e2.trans he) h1.1
  · obtain ⟨rfl, rfl, rfl, h4⟩ := h1
    rw [hc, hi] at h4
    rw [hc]
    exact ⟨rfl, h4, l, k⟩

theorem odel (k : ByteArray) {w : World} {sb g tb : Nat} {nd ck c : Int} {Ls Ls' : List En} (h : Sto w sb g tb nd ck Ls) (L : Lanes w) (hl : Ls.length ≤ 1000000) (he : wrErr k ⟨#[]⟩ nd ck Ls = 0) (hc : ck + 1 = c) (hi : insE (wrEn k ⟨#[]⟩ true nd ck) Ls = Ls') :
    Calls Tryd.prog 16 #[.pointer (some ⟨sb, 0, none⟩), .string k] w fun r w' => r = .returned (.tuple #[.agg #[.int .i64 c, .int .i64 nd], .int .i64 0]) ∧ Sto w' sb g tb nd c Ls' ∧ Lanes w' ∧ Keeps (Of sb g tb) w w' := by
  refine (qdel k h L hl).mono ?_
  rintro r w' ⟨c', m, er, rfl, e2, k, l, h1 | h1⟩
  · exact absurd (e2.trans he) h1.1
  · obtain ⟨rfl, rfl, rfl, h4⟩ := h1
    rw [hc, hi] at h4
    rw [hc]
    exact ⟨rfl, h4, l, k⟩

theorem otake (e : En) {w : World} {sb g tb : Nat} {nd ck c : Int} {Ls Ls' : List En} (h : Sto w sb g tb nd ck Ls) (L : Lanes w) (hl : Ls.length ≤ 1000000) (he : tkSay e Ls = (0, true)) (hc : ckm ck e.c = c) (hi : insE e Ls = Ls') :
    Calls Tryd.prog 17 #[.pointer (some ⟨sb, 0, none⟩), .agg #[.string e.k, .int .i64 e.c, .int .i64 e.n, .string e.v, .bool e.d]] w fun r w' => r = .returned (.tuple #[.bool true, .int .i64 0]) ∧ Sto w' sb g tb nd c Ls' ∧ Lanes w' ∧ Keeps (Of sb g tb) w w' := by
  refine (qtake e h L hl).mono ?_
  rintro r w' ⟨rfl, k, l, h1 | h1⟩
  · rw [he] at h1; cases h1.1
  · rw [hc, hi] at h1
    rw [he]
    exact ⟨rfl, h1.2, l, k⟩

theorem sh1 : wrErr ⟨#[97]⟩ ⟨#[120]⟩ 3 0 [] = 0 ∧ insE (wrEn ⟨#[97]⟩ ⟨#[120]⟩ false 3 0) [] = [(⟨⟨#[97]⟩, 1, 3, ⟨#[120]⟩, false⟩ : En)] := by constructor <;> kernel_rfl
theorem sh2 : wrErr ⟨#[98]⟩ ⟨#[]⟩ 3 1 [(⟨⟨#[97]⟩, 1, 3, ⟨#[120]⟩, false⟩ : En)] = 0 ∧ insE (wrEn ⟨#[98]⟩ ⟨#[]⟩ false 3 1) [(⟨⟨#[97]⟩, 1, 3, ⟨#[120]⟩, false⟩ : En)] = [(⟨⟨#[97]⟩, 1, 3, ⟨#[120]⟩, false⟩ : En), (⟨⟨#[98]⟩, 2, 3, ⟨#[]⟩, false⟩ : En)] := by constructor <;> kernel_rfl
theorem sh3 : wrErr ⟨#[97]⟩ ⟨#[]⟩ 3 2 [(⟨⟨#[97]⟩, 1, 3, ⟨#[120]⟩, false⟩ : En), (⟨⟨#[98]⟩, 2, 3, ⟨#[]⟩, false⟩ : En)] = 0 ∧ insE (wrEn ⟨#[97]⟩ ⟨#[]⟩ true 3 2) [(⟨⟨#[97]⟩, 1, 3, ⟨#[120]⟩, false⟩ : En), (⟨⟨#[98]⟩, 2, 3, ⟨#[]⟩, false⟩ : En)] = [(⟨⟨#[97]⟩, 3, 3, ⟨#[]⟩, true⟩ : En), (⟨⟨#[98]⟩, 2, 3, ⟨#[]⟩, false⟩ : En)] := by constructor <;> kernel_rfl
theorem sh4 : tkSay (⟨⟨#[99]⟩, 9, 0, ⟨#[]⟩, false⟩ : En) [(⟨⟨#[97]⟩, 3, 3, ⟨#[]⟩, true⟩ : En), (⟨⟨#[98]⟩, 2, 3, ⟨#[]⟩, false⟩ : En)] = (0, true) ∧ insE (⟨⟨#[99]⟩, 9, 0, ⟨#[]⟩, false⟩ : En) [(⟨⟨#[97]⟩, 3, 3, ⟨#[]⟩, true⟩ : En), (⟨⟨#[98]⟩, 2, 3, ⟨#[]⟩, false⟩ : En)] = [(⟨⟨#[97]⟩, 3, 3, ⟨#[]⟩, true⟩ : En), (⟨⟨#[98]⟩, 2, 3, ⟨#[]⟩, false⟩ : En), (⟨⟨#[99]⟩, 9, 0, ⟨#[]⟩, false⟩ : En)] := by constructor <;> kernel_rfl
theorem sh5 : wrErr ⟨#[97]⟩ ⟨#[121]⟩ 3 9 [(⟨⟨#[97]⟩, 3, 3, ⟨#[]⟩, true⟩ : En), (⟨⟨#[98]⟩, 2, 3, ⟨#[]⟩, false⟩ : En), (⟨⟨#[99]⟩, 9, 0, ⟨#[]⟩, false⟩ : En)] = 0 ∧ insE (wrEn ⟨#[97]⟩ ⟨#[121]⟩ false 3 9) [(⟨⟨#[97]⟩, 3, 3, ⟨#[]⟩, true⟩ : En), (⟨⟨#[98]⟩, 2, 3, ⟨#[]⟩, false⟩ : En), (⟨⟨#[99]⟩, 9, 0, ⟨#[]⟩, false⟩ : En)] = [(⟨⟨#[97]⟩, 10, 3, ⟨#[121]⟩, false⟩ : En), (⟨⟨#[98]⟩, 2, 3, ⟨#[]⟩, false⟩ : En), (⟨⟨#[99]⟩, 9, 0, ⟨#[]⟩, false⟩ : En)] := by constructor <;> kernel_rfl
theorem sh6 : (lookE ⟨#[97]⟩ [(⟨⟨#[97]⟩, 10, 3, ⟨#[121]⟩, false⟩ : En), (⟨⟨#[98]⟩, 2, 3, ⟨#[]⟩, false⟩ : En), (⟨⟨#[99]⟩, 9, 0, ⟨#[]⟩, false⟩ : En)]).getD eNone = (⟨⟨#[97]⟩, 10, 3, ⟨#[121]⟩, false⟩ : En) ∧ (lookE ⟨#[97]⟩ [(⟨⟨#[97]⟩, 10, 3, ⟨#[121]⟩, false⟩ : En), (⟨⟨#[98]⟩, 2, 3, ⟨#[]⟩, false⟩ : En), (⟨⟨#[99]⟩, 9, 0, ⟨#[]⟩, false⟩ : En)]).isSome = true := by constructor <;> kernel_rfl
theorem sh7 : Rg.chk ⟨⟨#[120]⟩, ⟨#[97]⟩, false⟩ = 21 ∧ foldV ⟨#[120]⟩ ⟨#[97]⟩ false [(⟨⟨#[97]⟩, 10, 3, ⟨#[121]⟩, false⟩ : En), (⟨⟨#[98]⟩, 2, 3, ⟨#[]⟩, false⟩ : En), (⟨⟨#[99]⟩, 9, 0, ⟨#[]⟩, false⟩ : En)] = tZero := by constructor <;> kernel_rfl
theorem sh8 : Rg.chk ⟨⟨#[98]⟩, ⟨#[99]⟩, false⟩ = 0 ∧ (foldV ⟨#[98]⟩ ⟨#[99]⟩ false [(⟨⟨#[97]⟩, 10, 3, ⟨#[121]⟩, false⟩ : En), (⟨⟨#[98]⟩, 2, 3, ⟨#[]⟩, false⟩ : En), (⟨⟨#[99]⟩, 9, 0, ⟨#[]⟩, false⟩ : En)]).n = 1 := by constructor <;> kernel_rfl

set_option maxHeartbeats 6400000 in
set_option maxRecDepth 100000 in
theorem shown_any (w : World) (L : Lanes w) : Calls Tryd.prog 8 #[] w fun e w' => e = .returned (.bool true) ∧ Below w.heap.size w w' := by
  have LL := aside L
  have C1 := aside (fun (W : World) => qnew 3 W)
  have hv1 : ∀ w : World, (binOp .eql 37 (.agg #[.int .i64 3, .int .i64 3]) (.agg #[.int .i64 3, .int .i64 3])).run Tryd.prog w = .ok (.bool true) w := fun w => verq_run 3 3 3 3 w
  have hv2 : ∀ w : World, (binOp .eql 37 (.agg #[.int .i64 10, .int .i64 3]) (.agg #[.int .i64 10, .int .i64 3])).run Tryd.prog w = .ok (.bool true) w := fun w => verq_run 10 3 10 3 w
  have hee : ∀ w : World, (binOp .eql 39 (.agg #[.string ⟨#[97]⟩, .int .i64 10, .int .i64 3, .string ⟨#[121]⟩, .bool false]) (.agg #[.string ⟨#[97]⟩, .int .i64 10, .int .i64 3, .string ⟨#[121]⟩, .bool false])).run Tryd.prog w = .ok (.bool true) w := fun w => by
    have h := ent_eq (⟨⟨#[97]⟩, 10, 3, ⟨#[121]⟩, false⟩ : En) (⟨⟨#[97]⟩, 10, 3, ⟨#[121]⟩, false⟩ : En) w
    rw [enEqB_same] at h
    exact h
  clear L
  go_enter Tryd.func8, Tryd.ntmps8
  go_wp2_with fail
  refine (C1.out _).mono ?_
  rintro e w1 ⟨b1, ⟨hn, rfl⟩ | ⟨-, sb, g, tb, rfl, hs, l1, l2, l3⟩⟩
  · exact absurd hn (by decide)
  have H1 := aside hs
  have L1 := aside (LL.out.keep b1)
  have K1 := aside (Keeps.of_below b1 (Of sb g tb))
  have HL := aside (show w.heap.size ≤ sb ∧ w.heap.size ≤ g ∧ w.heap.size ≤ tb from ⟨l1, l2, l3⟩)
  clear b1 hs l1 l2 l3 C1 LL
  go_wp2_with fail
  refine (oput ⟨#[97]⟩ ⟨#[120]⟩ H1.out L1.out (by decide) sh1.1 (show (0 : Int) + 1 = 1 from rfl) sh1.2).mono ?_
  rintro e w2 ⟨rfl, hs, hl, hk⟩
  have H2 := aside hs
  have L2 := aside hl
  have K2 := aside (K1.out.trans hk)
  clear hs hl hk H1 L1 K1
  go_wp2_with fail
  refine (oput ⟨#[98]⟩ ⟨#[]⟩ H2.out L2.out (by decide) sh2.1 (show (1 : Int) + 1 = 2 from rfl) sh2.2).mono ?_
  rintro e w3 ⟨rfl, hs, hl, hk⟩
  have H3 := aside hs
  have L3 := aside hl
  have K3 := aside (K2.out.trans hk)
  clear hs hl hk H2 L2 K2
  go_wp2_with fail
  refine (odel ⟨#[97]⟩ H3.out L3.out (by decide) sh3.1 (show (2 : Int) + 1 = 3 from rfl) sh3.2).mono ?_
  rintro e w4 ⟨rfl, hs, hl, hk⟩
  have b4 := bnew w4 (.cells #[.int .i64 3, .int .i64 3] 37)
  have H4 := aside (hs.below b4)
  have L4 := aside (hl.keep b4)
  have K4 := aside ((K3.out.trans hk).trans (Keeps.of_below b4 _))
  have V4 := aside (heap_alloc_new w4 (.cells #[.int .i64 3, .int .i64 3] 37))
  clear hs hl hk H3 L3 K3 b4
  go_wp2_with fail
  refine (otake (⟨⟨#[99]⟩, 9, 0, ⟨#[]⟩, false⟩ : En) H4.out L4.out (by decide) sh4.1 (show ckm 3 9 = 9 from rfl) sh4.2).mono ?_
  rintro e w5 ⟨rfl, hs, hl, hk⟩
  have H5 := aside hs
  have L5 := aside hl
  have K5 := aside (K4.out.trans hk)
  have V5 := aside (blk_keep V4.out hk (H4.out.not V4.out (by decide) (by decide) (by decide)))
  clear hs hl hk H4 L4 K4 V4
  generalize w4.heap.size = i4 at *
  go_wp2_with fail
  refine (oput ⟨#[97]⟩ ⟨#[121]⟩ H5.out L5.out (by decide) sh5.1 (show (9 : Int) + 1 = 10 from rfl) sh5.2).mono ?_
  rintro e w6 ⟨rfl, hs, hl, hk⟩
  have b6 := bnew w6 (.cells #[.int .i64 10, .int .i64 3] 37)
  have H6 := aside (hs.below b6)
  have L6 := aside (hl.keep b6)
  have K6 := aside ((K5.out.trans hk).trans (Keeps.of_below b6 _))
  have V6 := aside (blk_on (blk_keep V5.out hk (H5.out.not V5.out (by decide) (by decide) (by decide))) b6)
  have U6 := aside (heap_alloc_new w6 (.cells #[.int .i64 10, .int .i64 3] 37))
  clear hs hl hk H5 L5 K5 V5 b6
  go_wp2_with fail
  have CG := aside (qget ⟨#[97]⟩ H6.out (by decide))
  rw [if_neg (by decide), sh6.1, sh6.2] at CG
  refine CG.out.mono ?_
  rintro e w7 ⟨rfl, b7⟩
  have b7' := bnew w7 (.cells #[.string (⟨⟨#[97]⟩, 10, 3, ⟨#[121]⟩, false⟩ : En).k, .int .i64 (⟨⟨#[97]⟩, 10, 3, ⟨#[121]⟩, false⟩ : En).c, .int .i64 (⟨⟨#[97]⟩, 10, 3, ⟨#[121]⟩, false⟩ : En).n, .string (⟨⟨#[97]⟩, 10, 3, ⟨#[121]⟩, false⟩ : En).v, .bool (⟨⟨#[97]⟩, 10, 3, ⟨#[121]⟩, false⟩ : En).d] 39)
  have H7 := aside ((H6.out.below b7).below b7')
  have L7 := aside ((L6.out.keep b7).keep b7')
  have K7 := aside (K6.out.trans (Keeps.of_below (bthen b7 b7') _))
  have V7 := aside (blk_on (blk_on V6.out b7) b7')
  have U7 := aside (blk_on (blk_on U6.out b7) b7')
  have E7 := aside (heap_alloc_new w7 (.cells #[.string (⟨⟨#[97]⟩, 10, 3, ⟨#[121]⟩, false⟩ : En).k, .int .i64 (⟨⟨#[97]⟩, 10, 3, ⟨#[121]⟩, false⟩ : En).c, .int .i64 (⟨⟨#[97]⟩, 10, 3, ⟨#[121]⟩, false⟩ : En).n, .string (⟨⟨#[97]⟩, 10, 3, ⟨#[121]⟩, false⟩ : En).v, .bool (⟨⟨#[97]⟩, 10, 3, ⟨#[121]⟩, false⟩ : En).d] 39))
  clear b7 b7' CG H6 L6 K6 V6 U6
  generalize w6.heap.size = i6 at *
  dsimp only at H7 L7 K7 V7 U7 E7
  go_wp2_with fail
  have CF := aside (qfold ⟨#[120]⟩ ⟨#[97]⟩ false H7.out L7.out (by decide))
  rw [sh7.1, sh7.2, tZero_n, tZero_a, tZero_b] at CF
  refine CF.out.mono ?_
  rintro e w8 ⟨rfl, hs, hk, hl⟩
  have b8 := bnew w8 (.cells #[.int .i64 0, .int .u64 0, .int .u64 0] 64)
  have H8 := aside (hs.below b8)
  have L8 := aside (hl.keep b8)
  have K8 := aside ((K7.out.trans hk).trans (Keeps.of_below b8 _))
  have V8 := aside (blk_on (blk_keep V7.out hk (H7.out.not V7.out (by decide) (by decide) (by decide))) b8)
  have U8 := aside (blk_on (blk_keep U7.out hk (H7.out.not U7.out (by decide) (by decide) (by decide))) b8)
  have E8 := aside (blk_on (blk_keep E7.out hk (H7.out.not E7.out (by decide) (by decide) (by decide))) b8)
  clear hs hl hk H7 L7 K7 V7 U7 E7 b8 CF
  generalize w7.heap.size = i7 at *
  go_wp2_with fail
  have CF := aside (qfold ⟨#[98]⟩ ⟨#[99]⟩ false H8.out L8.out (by decide))
  obtain ⟨tn, htn⟩ : ∃ x, (foldV ⟨#[98]⟩ ⟨#[99]⟩ false [(⟨⟨#[97]⟩, 10, 3, ⟨#[121]⟩, false⟩ : En), (⟨⟨#[98]⟩, 2, 3, ⟨#[]⟩, false⟩ : En), (⟨⟨#[99]⟩, 9, 0, ⟨#[]⟩, false⟩ : En)]).n = x := ⟨_, rfl⟩
  obtain ⟨ta, hta⟩ : ∃ x, (foldV ⟨#[98]⟩ ⟨#[99]⟩ false [(⟨⟨#[97]⟩, 10, 3, ⟨#[121]⟩, false⟩ : En), (⟨⟨#[98]⟩, 2, 3, ⟨#[]⟩, false⟩ : En), (⟨⟨#[99]⟩, 9, 0, ⟨#[]⟩, false⟩ : En)]).a = x := ⟨_, rfl⟩
  obtain ⟨tc, htc⟩ : ∃ x, (foldV ⟨#[98]⟩ ⟨#[99]⟩ false [(⟨⟨#[97]⟩, 10, 3, ⟨#[121]⟩, false⟩ : En), (⟨⟨#[98]⟩, 2, 3, ⟨#[]⟩, false⟩ : En), (⟨⟨#[99]⟩, 9, 0, ⟨#[]⟩, false⟩ : En)]).b = x := ⟨_, rfl⟩
  rw [sh8.1, htn, hta, htc] at CF
  rw [sh8.2] at htn
  subst htn
  clear hta htc
  refine CF.out.mono ?_
  rintro e w9 ⟨rfl, hs, hk, hl⟩
  have b9 := bnew w9 (.cells #[.int .i64 1, .int .u64 ta, .int .u64 tc] 64)
  have H9 := aside (hs.below b9)
  have K9 := aside ((K8.out.trans hk).trans (Keeps.of_below b9 _))
  obtain ⟨v0, v1, -, -⟩ := pair (blk_on (blk_keep V8.out hk (H8.out.not V8.out (by decide) (by decide) (by decide))) b9)
  obtain ⟨u0, u1, -, -⟩ := pair (blk_on (blk_keep U8.out hk (H8.out.not U8.out (by decide) (by decide) (by decide))) b9)
  obtain ⟨e0, e1, e2, e3, e4, -⟩ := penta (blk_on (blk_keep E8.out hk (H8.out.not E8.out (by decide) (by decide) (by decide))) b9)
  have CLn := aside (qlen H9.out)
  have CCk := aside (qclock H9.out)
  rw [show (([(⟨⟨#[97]⟩, 10, 3, ⟨#[121]⟩, false⟩ : En), (⟨⟨#[98]⟩, 2, 3, ⟨#[]⟩, false⟩ : En), (⟨⟨#[99]⟩, 9, 0, ⟨#[]⟩, false⟩ : En)].length : Nat) : Int) = 3 from rfl] at CLn
  clear hs hl hk H8 L8 K8 V8 U8 E8 b9 CF
  generalize w8.heap.size = i8 at *
  go_wp2_with fail
  refine CLn.out.mono ?_
  rintro e w10 ⟨rfl, rfl⟩
  go_wp2_with fail
  refine CCk.out.mono ?_
  rintro e w10 ⟨rfl, rfl⟩
  go_wp2
  go_ret
  exact ⟨rfl, K9.out.below (Nat.le_refl _) (fun k hk e => by have := HL.out; rcases e with e | e | e <;> omega)⟩

end Go.Proofs.YtlgcdcjhflihiaaDoor
namespace Go.Proofs.YtlgcdcjhflihiaaDoor
open Go.RowKit
set_option linter.unusedVariables false

/-- Two stores: the first of the node 0, the second of the node 5. -/
structure TW (w W : World) (sa ga ta sb gb tb : Nat) (La : List En) (ca : Int) (Lb : List En) (cb : Int) : Prop where
  a : Sto W sa ga ta 0 ca La
  b : Sto W sb gb tb 5 cb Lb
  lan : Lanes W
  below : Below w.heap.size w W
  la : w.heap.size ≤ sa ∧ w.heap.size ≤ ga ∧ w.heap.size ≤ ta
  lb : w.heap.size ≤ sb ∧ w.heap.size ≤ gb ∧ w.heap.size ≤ tb
  ap : sa ≠ sb ∧ ga ≠ gb ∧ ta ≠ tb

section
variable {w W W' : World} {sa ga ta sb gb tb : Nat} {La : List En} {ca : Int} {Lb : List En} {cb : Int}

theorem TW.on (h : TW w W sa ga ta sb gb tb La ca Lb cb) (b : Below W.heap.size W W') : TW w W' sa ga ta sb gb tb La ca Lb cb :=
  ⟨h.a.below b, h.b.below b, h.lan.keep b, bthen h.below b, h.la, h.lb, h.ap⟩
theorem TW.drew (h : TW w W sa ga ta sb gb tb La ca Lb cb) : TW w W.drew sa ga ta sb gb tb La ca Lb cb := h.on ((Below.refl _ _).drew)
theorem TW.turnA {La' : List En} {ca' : Int} (h : TW w W sa ga ta sb gb tb La ca Lb cb) (s : Sto W' sa ga ta 0 ca' La') (k : Keeps (Of sa ga ta) W W') : TW w W' sa ga ta sb gb tb La' ca' Lb cb :=
  ⟨s, h.b.keep h.a k h.ap.1.symm h.ap.2.1.symm h.ap.2.2.symm, h.a.keeps h.lan k, h.below.trans (k.below h.below.size (fun i hi e => by have := h.la; rcases e with e | e | e <;> omega)), h.la, h.lb, h.ap⟩
theorem TW.turnB {Lb' : List En} {cb' : Int} (h : TW w W sa ga ta sb gb tb La ca Lb cb) (s : Sto W' sb gb tb 5 cb' Lb') (k : Keeps (Of sb gb tb) W W') : TW w W' sa ga ta sb gb tb La ca Lb' cb' :=
  ⟨h.a.keep h.b k h.ap.1 h.ap.2.1 h.ap.2.2, s, h.b.keeps h.lan k, h.below.trans (k.below h.below.size (fun i hi e => by have := h.lb; rcases e with e | e | e <;> omega)), h.la, h.lb, h.ap⟩
theorem TW.ownA {B : Nat} {e : TypeId} {s : Nat} {v : Value} {n : Nat} {xs : List Value} (h : TW w W sa ga ta sb gb tb La ca Lb cb) (k : Keeps (Of sa ga ta) W W') (o : W.ownsRow B e s v n xs) (h1 : e ≠ 82) (h2 : e ≠ 111) (h3 : e ≠ 149) : W'.ownsRow B e s v n xs :=
  own_kept o k (fun g cs hg => h.a.not hg h1 h2 h3)
theorem TW.ownB {B : Nat} {e : TypeId} {s : Nat} {v : Value} {n : Nat} {xs : List Value} (h : TW w W sa ga ta sb gb tb La ca Lb cb) (k : Keeps (Of sb gb tb) W W') (o : W.ownsRow B e s v n xs) (h1 : e ≠ 82) (h2 : e ≠ 111) (h3 : e ≠ 149) : W'.ownsRow B e s v n xs :=
  own_kept o k (fun g cs hg => h.b.not hg h1 h2 h3)
theorem TW.boxB {i : Nat} {cs : Array Value} {U : TypeId} (h : TW w W sa ga ta sb gb tb La ca Lb cb) (k : Keeps (Of sb gb tb) W W') (hi : W.heap[i]? = some (.cells cs U (0, 0))) (h1 : U ≠ 82) (h2 : U ≠ 111) (h3 : U ≠ 149) : W'.heap[i]? = some (.cells cs U (0, 0)) :=
  blk_keep hi k (h.b.not hi h1 h2 h3)

theorem takeA (e : En) {P : En → Prop} (h : TW w W sa ga ta sb gb tb La ca Lb cb) (hk : Took P La ca) :
    Calls Tryd.prog 17 #[.pointer (some ⟨sa, 0, none⟩), .agg #[.string e.k, .int .i64 e.c, .int .i64 e.n, .string e.v, .bool e.d]] W fun r W' => ∃ b g La' ca', r = .returned (.tuple #[.bool b, .int .i64 g]) ∧ TW w W' sa ga ta sb gb tb La' ca' Lb cb ∧ Keeps (Of sa ga ta) W W' ∧ (g ≠ 80 → Took (fun x => P x ∨ x = e) La' ca') := by
  refine (qtake e h.a h.lan (by have := hk.len; omega)).mono ?_
  rintro r W' ⟨rfl, k, L, ⟨h1, s⟩ | ⟨h1, s⟩⟩
  · exact ⟨_, _, _, _, rfl, h.turnA s k, k, fun hg => hk.pass e h1 hg⟩
  · exact ⟨_, _, _, _, rfl, h.turnA s k, k, fun _ => hk.take e h1⟩
theorem takeB (e : En) {P : En → Prop} (h : TW w W sa ga ta sb gb tb La ca Lb cb) (hk : Took P Lb cb) :
    Calls Tryd.prog 17 #[.pointer (some ⟨sb, 0, none⟩), .agg #[.string e.k, .int .i64 e.c, .int .i64 e.n, .string e.v, .bool e.d]] W fun r W' => ∃ b g Lb' cb', r = .returned (.tuple #[.bool b, .int .i64 g]) ∧ TW w W' sa ga ta sb gb tb La ca Lb' cb' ∧ Keeps (Of sb gb tb) W W' ∧ (g ≠ 80 → Took (fun x => P x ∨ x = e) Lb' cb') := by
  refine (qtake e h.b h.lan (by have := hk.len; omega)).mono ?_
  rintro r W' ⟨rfl, k, L, ⟨h1, s⟩ | ⟨h1, s⟩⟩
  · exact ⟨_, _, _, _, rfl, h.turnB s k, k, fun hg => hk.pass e h1 hg⟩
  · exact ⟨_, _, _, _, rfl, h.turnB s k, k, fun _ => hk.take e h1⟩
theorem takeC (e : En) {P : En → Prop} (h : TW w W sa ga ta sb gb tb La ca Lb cb) (hk : Took P La ca) (he : P e) :
    Calls Tryd.prog 17 #[.pointer (some ⟨sa, 0, none⟩), .agg #[.string e.k, .int .i64 e.c, .int .i64 e.n, .string e.v, .bool e.d]] W fun r W' => ∃ g, r = .returned (.tuple #[.bool false, .int .i64 g]) ∧ TW w W' sa ga ta sb gb tb La ca Lb cb := by
  have h0 := hk.again e he
  refine (qtake e h.a h.lan (by have := hk.len; omega)).mono ?_
  rintro r W' ⟨rfl, k, L, ⟨h1, s⟩ | ⟨h1, s⟩⟩
  · exact ⟨_, by rw [h1], h.turnA s k⟩
  · rw [h0] at h1; cases h1

theorem foldA (h : TW w W sa ga ta sb gb tb La ca Lb cb) (hl : La.length ≤ 256) :
    Calls Tryd.prog 24 #[.pointer (some ⟨sa, 0, none⟩), .agg #[.string ⟨#[]⟩, .string ⟨#[]⟩, .bool true]] W fun r W' => r = .returned (.tuple #[.agg #[.int .i64 (foldV ⟨#[]⟩ ⟨#[]⟩ true La).n, .int .u64 (foldV ⟨#[]⟩ ⟨#[]⟩ true La).a, .int .u64 (foldV ⟨#[]⟩ ⟨#[]⟩ true La).b], .int .i64 0]) ∧ TW w W' sa ga ta sb gb tb La ca Lb cb ∧ Keeps (Of sa ga ta) W W' := by
  refine (qfold ⟨#[]⟩ ⟨#[]⟩ true h.a h.lan (by omega)).mono ?_
  rintro r W' ⟨rfl, s, k, L⟩
  exact ⟨by rw [chk_whole], h.turnA s k, k⟩
theorem foldB (h : TW w W sa ga ta sb gb tb La ca Lb cb) (hl : Lb.length ≤ 256) :
    Calls Tryd.prog 24 #[.pointer (some ⟨sb, 0, none⟩), .agg #[.string ⟨#[]⟩, .string ⟨#[]⟩, .bool true]] W fun r W' => r = .returned (.tuple #[.agg #[.int .i64 (foldV ⟨#[]⟩ ⟨#[]⟩ true Lb).n, .int .u64 (foldV ⟨#[]⟩ ⟨#[]⟩ true Lb).a, .int .u64 (foldV ⟨#[]⟩ ⟨#[]⟩ true Lb).b], .int .i64 0]) ∧ TW w W' sa ga ta sb gb tb La ca Lb cb ∧ Keeps (Of sb gb tb) W W' := by
  refine (qfold ⟨#[]⟩ ⟨#[]⟩ true h.b h.lan (by omega)).mono ?_
  rintro r W' ⟨rfl, s, k, L⟩
  exact ⟨by rw [chk_whole], h.turnB s k, k⟩
end

theorem talL_num : ∀ (l : List En), l.length ≤ 1000000 → (talL l).n = (l.length : Int)
  | [], _ => rfl
  | x :: l, h => by
    have ih := talL_num l (by simp only [List.length_cons] at h; omega)
    have e : talL (x :: l) = tJoin (tof x) (talL l) := by
      have := talL_append [x] l
      rw [talL_one] at this
      exact this
    rw [e, ← tJoin_n, ih, tof_n, IntKind.wrap_i64]
    simp only [List.length_cons] at h ⊢
    omega
theorem fold_num {Ls : List En} (hl : Ls.length ≤ 256) : (foldV ⟨#[]⟩ ⟨#[]⟩ true Ls).n = (Ls.length : Int) := by
  unfold foldV
  rw [if_pos chk_whole]
  have : Ls.filter (inR ⟨#[]⟩ ⟨#[]⟩ true) = Ls := by
    rw [List.filter_eq_self]
    intro x _
    simp [inR, kLt_none]
  rw [this, talL_num _ (by omega)]

/-- Two entries of one key and one version are one. -/
def Ok2 (x y : En) : Prop := x.k = y.k → x.c = y.c → x.n = y.n → x = y
theorem Ok2.symm {x y : En} (h : Ok2 x y) : Ok2 y x := fun a b c => (h a.symm b.symm c.symm).symm
def NoTw (T : Nat → En) (i k : Nat) : Prop := (∀ p, p < i → ∀ q, q < p → Ok2 (T p) (T q)) ∧ ∀ q, q < k → Ok2 (T i) (T q)
theorem NoTw.nil (T : Nat → En) : NoTw T 0 0 := ⟨fun p h => absurd h (Nat.not_lt_zero _), fun q h => absurd h (Nat.not_lt_zero _)⟩
theorem NoTw.next {T : Nat → En} {i k : Nat} (h : NoTw T i k) (h2 : Ok2 (T i) (T k)) : NoTw T i (k + 1) :=
  ⟨h.1, fun q hq => by rcases Nat.lt_succ_iff_lt_or_eq.1 hq with h3 | rfl; exact h.2 q h3; exact h2⟩
theorem NoTw.row {T : Nat → En} {i : Nat} (h : NoTw T i i) : NoTw T (i + 1) 0 :=
  ⟨fun p hp q hq => by rcases Nat.lt_succ_iff_lt_or_eq.1 hp with h3 | rfl; exact h.1 p h3 q hq; exact h.2 q hq, fun q h => absurd h (Nat.not_lt_zero _)⟩
theorem NoTw.all {T : Nat → En} {n : Nat} (h : NoTw T n 0) (p q : Nat) (hp : p < n) (hq : q < n) : Ok2 (T p) (T q) := by
  rcases Nat.lt_trichotomy p q with h1 | rfl | h1
  · exact (h.1 q hq p h1).symm
  · exact fun _ _ _ => rfl
  · exact h.1 p hp q h1

/-- The row of numbers, since V. -/
structure LN (V W : World) (v : Value) (n : Nat) (l : List Nat) : Prop where
  own : W.ownsRow V.heap.size 3 1 v n (numCells l)
  below : Below V.heap.size V W
  len : l.length = n
theorem LN.on {V W W' : World} {v : Value} {n : Nat} {l : List Nat} (h : LN V W v n l) (b : Below W.heap.size W W') : LN V W' v n l := ⟨own_on h.own b, bthen h.below b, h.len⟩
theorem LN.drew {V W : World} {v : Value} {n : Nat} {l : List Nat} (h : LN V W v n l) : LN V W.drew v n l := ⟨h.own.drew, h.below.drew, h.len⟩
theorem LN.swap {V W : World} {g c n i k : Nat} {l : List Nat} (h : LN V W (.slice (some ⟨g, 0, none⟩) n c) n l) :
    LN V ((W.setCell ⟨g, i, none⟩ (.int .i64 (nthN l k : Int))).setCell ⟨g, k, none⟩ (.int .i64 (nthN l i : Int))) (.slice (some ⟨g, 0, none⟩) n c) n (swapN l i k) := by
  have hl := h.len
  have hg := (h.own.lt g rfl).1
  exact ⟨num_put (num_put h.own), (h.below.setCell hg _).setCell hg _, by rw [swapN_length]; exact hl⟩
/-- The numbers below n, in some order. -/
def AllOf (l : List Nat) (n : Nat) : Prop := l.length = n ∧ ∀ x, x ∈ l ↔ x < n
theorem AllOf.range (n : Nat) : AllOf (List.range n) n := ⟨List.length_range, fun x => List.mem_range⟩
theorem AllOf.swap {l : List Nat} {n i k : Nat} (h : AllOf l n) (hi : i < n) (hk : k < n) : AllOf (swapN l i k) n := by
  obtain ⟨h1, h2⟩ := h
  exact ⟨by rw [swapN_length]; exact h1, fun x => (mem_swapN (by omega) (by omega) x).trans (h2 x)⟩
theorem AllOf.lt {l : List Nat} {n i : Nat} (h : AllOf l n) (hi : i < n) : nthN l i < n := by
  obtain ⟨h1, h2⟩ := h
  exact (h2 _).1 (List.mem_of_getElem? (nthN_get (by omega)))
theorem AllOf.hit {l : List Nat} {n x : Nat} (h : AllOf l n) (hx : x < n) : ∃ p, p < n ∧ nthN l p = x := by
  obtain ⟨h1, h2⟩ := h
  obtain ⟨p, hp, e⟩ := List.mem_iff_getElem.1 ((h2 x).2 hx)
  refine ⟨p, by omega, ?_⟩
  have := nthN_get hp
  rw [List.getElem?_eq_getElem hp] at this
  injection this with this
  rw [← this, e]

end Go.Proofs.YtlgcdcjhflihiaaDoor

/-
  Scan and All: an iterator over entries that goes over the one of the tree.
  Iterators whose items are known to be right: what they may ask of the one who ranges over them, and the law for the loop.
  The tree's All: an iterator over its rows that goes over the one of Span.
-/
import Derived.Test.YtlgcdcjhflihiaaDoorBstorefills24
import Derived.Test.YtlgcdcjhflihiaaDoorBstorefills28
namespace Go.Proofs.YtlgcdcjhflihiaaDoor
open Go.RowKit Go.Shelf
set_option linter.unusedVariables false

attribute [local go_sem] Oper.semAt_some

/-- An entry, as it is handed out. -/
def encE (x : En) : Array Value := #[.agg #[.string x.k, .int .i64 x.c, .int .i64 x.n, .string x.v, .bool x.d]]

/-- What a round over such an iterator keeps: nodes, yields and bools that lay there. -/
def KpT (A B : World) : Prop := Stay 120 A B ∧ Stay 134 A B ∧ Stay 4 A B

theorem KpT.refl (A : World) : KpT A A := ⟨Stay.refl _ _, Stay.refl _ _, Stay.refl _ _⟩
theorem KpT.t {A B C : World} (h : KpT A B) (h2 : KpT B C) : KpT A C := ⟨h.1.trans h2.1, h.2.1.trans h2.2.1, h.2.2.trans h2.2.2⟩
theorem KpT.alloc {A B : World} (h : KpT A B) (o : Obj) : KpT A (B.alloc o) := ⟨h.1.alloc o, h.2.1.alloc o, h.2.2.alloc o⟩
theorem KpT.drew {A B : World} (h : KpT A B) : KpT A B.drew := ⟨h.1.drew, h.2.1.drew, h.2.2.drew⟩
theorem KpT.b (W : World) (l : Nat) (o o' : Obj) (h : W.heap[l]? = some o) (ho : o.isCells = false) : KpT W (W.putObj l o') := by
  have s : ∀ T, Stay T W (W.putObj l o') := fun T i cs e => by
    by_cases hi : i = l
    · subst hi; rw [h] at e; injection e with e; subst e; cases ho
    · exact (World.putObj_heap_other hi).trans e
  exact ⟨s _, s _, s _⟩

/-- The entries of rows; dead ones only if they are wanted. -/
def entsOf (dd : Bool) (l : List (Rw En Tl)) : List En := (l.map (·.v)).filter (fun e => dd || !e.d)

theorem entsOf_snoc (dd : Bool) (l : List (Rw En Tl)) (x : Rw En Tl) : entsOf dd (l ++ [x]) = entsOf dd l ++ (if dd || !x.v.d then [x.v] else []) := by
  unfold entsOf
  rw [List.map_append, List.filter_append]
  congr 1
  simp only [List.map_cons, List.map_nil]
  cases h : (dd || !x.v.d)
  · rw [List.filter_cons_of_neg (by simpa using h)]; simp
  · rw [List.filter_cons_of_pos (by simpa using h)]; simp
theorem entsOf_prefix {dd : Bool} {l m : List (Rw En Tl)} (h : l <+: m) : entsOf dd l <+: entsOf dd m := by
  obtain ⟨r, rfl⟩ := h
  unfold entsOf
  rw [List.map_append, List.filter_append]
  exact List.prefix_append _ _
theorem entsOf_length (dd : Bool) (l : List (Rw En Tl)) : (entsOf dd l).length ≤ l.length := by
  unfold entsOf
  exact Nat.le_trans (List.length_filter_le _ _) (by simp)

set_option maxHeartbeats 8000000 in
set_option maxRecDepth 100000 in
theorem thru1 {w : World} {hb db : Nat} {dd : Bool} {lbS : Array Value} {sg : List (Rw En Tl)} (hh : w.heap[hb]? = some (.cells #[.func (.func 58) #[] lbS] 94 (0, 0))) (hd : w.heap[db]? = some (.cells #[.bool dd] 4 (0, 0)))
    (hs : SeqO Tryd.prog 58 lbS encs2 KpT (fun ys => ys = sg) (fun q => q <+: sg) sg.length w) :
    SeqO Tryd.prog 69 #[.pointer (some ⟨hb, 0, none⟩), .pointer (some ⟨db, 0, none⟩)] encE KpT (fun ys => ys = entsOf dd sg) (fun q => q <+: entsOf dd sg) sg.length w := by
  intro m l J Jx W hW hJ hJx hY h0
  have hh' := blk_on hh hW
  have hd' := blk_on hd hW
  have b1 := bnew W (.cells #[.func (.yield l) #[] #[]] 134)
  have yb := heap_alloc_new W (.cells #[.func (.yield l) #[] #[]] 134)
  have c0 := cell_one (blk_on hh' b1)
  have BW := aside (bthen hW b1)
  have J0 := aside (hJ.alloc (.cells #[.func (.yield l) #[] #[]] 134) h0)
  have YV := aside yb
  have DV := aside (blk_on hd' b1)
  have HY := aside hY
  have HS := aside hs
  clear hh hd hs hh' hd' b1 yb hY h0
  refine (callsIn_wide (n := m + 3)).1 ?_
  refine callsIn_of_wp_marks Tryd.func69 rfl trivial ?_ rfl
  simp only [Tryd.ntmps69, List.size_toArray, List.length_cons, List.length_nil, Nat.reduceAdd, Nat.reduceSub, Array.replicate_succ, Array.replicate_zero, List.push_toArray, List.append_toArray, List.nil_append, List.cons_append]
  gi_wp2_with fail
  refine wpIn_wide.2 (wp_scope_straight ((wpIn_wide (n := m + 3)).1 ?_))
  refine wpIn_seq (wpIn_label ?_)
  gi_wp2_with fail
  have VS := aside (show W.heap.size + 1 = (W.alloc (.cells #[.func (.yield l) #[] #[]] 134)).heap.size from by simp)
  have HJ := aside hJ
  have HJx := aside hJx
  clear c0 hJ hJx hW
  generalize W.alloc (.cells #[.func (.yield l) #[] #[]] 134) = V at *
  have ownI : OwnFrom V.heap.size (fun (pre : List (Rw En Tl)) X => J (entsOf dd pre) X ∧ X.heap[W.heap.size]? = some (.cells #[.func (.yield l) #[] #[]] 134 (0, 0)) ∧ X.heap[db]? = some (.cells #[.bool dd] 4 (0, 0))) := fun s A B row hs hg hr =>
    have hr' : ∀ r, row = some r → ∃ o : Obj, A.heap[r]? = some o ∧ o.isCells = false := fun r e => (hr r e).2
    ⟨HJ.out _ A B row hs.1 hg (fun r e => ⟨by have := (hr r e).1; have := VS.out; omega, (hr r e).2⟩), cells_own hs.2.1 hg hr', cells_own hs.2.2 hg hr'⟩
  refine rangeO rfl (enters_of Tryd.func58 (by kernel_rfl) rfl) HS.out KpT.t (fun W l o o' _ h ho => KpT.b W l o o' h ho) BW.out (fun _ => rfl)
    (fun (pre : List (Rw En Tl)) X => J (entsOf dd pre) X ∧ X.heap[W.heap.size]? = some (.cells #[.func (.yield l) #[] #[]] 134 (0, 0)) ∧ X.heap[db]? = some (.cells #[.bool dd] 4 (0, 0)))
    (fun c pre X => c = .ret ∧ Jx (entsOf dd pre) X) ownI (fun c s A B row hs hg hr => ⟨hs.1, HJx.out _ A B row hs.2 hg (fun r e => ⟨by have := (hr r e).1; have := VS.out; omega, (hr r e).2⟩)⟩) ⟨J0.out, YV.out, DV.out⟩
    (fun x a' X => ∃ eb : Nat, a' = ⟨#[.func (.yield l) #[] #[], .pointer (some ⟨hb, 0, none⟩), .pointer (some ⟨db, 0, none⟩), .pointer (some ⟨W.heap.size, 0, none⟩), undef, .pointer (some ⟨eb, 0, none⟩), .func (.func 58) #[] lbS, .string x.k, .agg #[.string x.v.k, .int .i64 x.v.c, .int .i64 x.v.n, .string x.v.v, .bool x.v.d], undef, undef, undef, undef, undef, undef, undef, undef, undef, undef, undef, undef], []⟩ ∧ X.heap[eb]? = some (.cells #[.string x.v.k, .int .i64 x.v.c, .int .i64 x.v.n, .string x.v.v, .bool x.v.d] 39 (0, 0)))
    (fun x a' _ A B row hs hg hr => by
      obtain ⟨eb, h1, h2⟩ := hs
      exact ⟨eb, h1, cells_own h2 hg (fun r e => (hr r e).2)⟩) ?assign ?body ?done ?stop
  case assign =>
    intro l' pre x X K hi hK
    dsimp only [encs2]
    gi_wp2
    refine hK _ _ ?_ ?_ ?_ ⟨_, rfl, heap_alloc_new X _⟩
    · exact KeepsFrom.of_grownBy (World.grownBy_alloc X _ none) (fun j e => by cases e)
    · exact (KpT.refl X).alloc _
    · exact ownI.alloc _ hi
  case body =>
    rintro l' pre ⟨xk, ⟨vk, vc, vn, vv, vd⟩, xs⟩ a' X ⟨hj, hy, hd⟩ ⟨eb, rfl, he⟩ hlen
    dsimp only at he ⊢
    obtain ⟨e0, e1, e2, e3, e4, -⟩ := penta he
    have D0 := cell_one hd
    have Y0 := cell_one hy
    have HX := aside (show J (entsOf dd pre) X ∧ X.heap[W.heap.size]? = some (.cells #[.func (.yield l) #[] #[]] 134 (0, 0)) ∧ X.heap[db]? = some (.cells #[.bool dd] 4 (0, 0)) from ⟨hj, hy, hd⟩)
    have HLN := aside hlen
    have hsn := aside (entsOf_snoc dd pre ⟨xk, ⟨vk, vc, vn, vv, vd⟩, xs⟩)
    clear hj hy hd he hlen
    cases vd with
    | false =>
      rw [show (if dd || !(⟨xk, ⟨vk, vc, vn, vv, false⟩, xs⟩ : Rw En Tl).v.d then [(⟨xk, ⟨vk, vc, vn, vv, false⟩, xs⟩ : Rw En Tl).v] else []) = [⟨vk, vc, vn, vv, false⟩] from by simp] at hsn
      obtain ⟨fn, tmps, assign, body, hy, hR⟩ := HY.out (entsOf dd pre) ⟨vk, vc, vn, vv, false⟩ X HX.out.1 (Nat.lt_of_le_of_lt (entsOf_length _ _) HLN.out)
      dsimp only [encE] at hy
      have HR := aside hR
      clear hR
      gi_wp2_with fail
      refine HR.out.mono ?_
      rintro e X3 ⟨kf, ⟨rfl, hj3, kp3⟩ | ⟨rfl, hx3⟩⟩
      · have KF := aside (keepsFrom_up kf (show W.heap.size ≤ V.heap.size from by have := VS.out; omega))
        have KP := aside kp3
        have J3 := aside hj3
        clear kf kp3 hj3 hy
        gi_wp2
        exact ⟨KF.out, KP.out, by rw [hsn.out]; exact J3.out, KP.out.2.1 _ _ HX.out.2.1, KP.out.2.2 _ _ HX.out.2.2⟩
      · have KF := aside (keepsFrom_up kf (show W.heap.size ≤ V.heap.size from by have := VS.out; omega))
        have X3' := aside hx3
        clear kf hx3 hy
        gi_wp2
        exact ⟨KF.out, rfl, by rw [hsn.out]; exact X3'.out⟩
    | true =>
      cases dd with
      | true =>
        obtain ⟨fn, tmps, assign, body, hy, hR⟩ := HY.out (entsOf true pre) ⟨vk, vc, vn, vv, true⟩ X HX.out.1 (Nat.lt_of_le_of_lt (entsOf_length _ _) HLN.out)
        dsimp only [encE] at hy
        have HR := aside hR
        clear hR
        gi_wp2_with fail
        refine HR.out.mono ?_
        rintro e X3 ⟨kf, ⟨rfl, hj3, kp3⟩ | ⟨rfl, hx3⟩⟩
        · have KF := aside (keepsFrom_up kf (show W.heap.size ≤ V.heap.size from by have := VS.out; omega))
          have KP := aside kp3
          have J3 := aside hj3
          clear kf kp3 hj3 hy
          gi_wp2
          exact ⟨KF.out, KP.out, by rw [hsn.out]; exact J3.out, KP.out.2.1 _ _ HX.out.2.1, KP.out.2.2 _ _ HX.out.2.2⟩
        · have KF := aside (keepsFrom_up kf (show W.heap.size ≤ V.heap.size from by have := VS.out; omega))
          have X3' := aside hx3
          clear kf hx3 hy
          gi_wp2
          exact ⟨KF.out, rfl, by rw [hsn.out]; exact X3'.out⟩
      | false =>
        gi_wp2
        exact ⟨KeepsFrom.refl _ _, KpT.refl _, by rw [hsn.out]; simpa using HX.out.1, HX.out.2.1, HX.out.2.2⟩
  case done =>
    rintro D xs X hD rfl ⟨hj, hy, hd⟩ hK
    have FIN := aside (HJ.out.putObj (.deferred none) hj (by have := VS.out; omega) hK rfl)
    clear hj hy hd
    gi_wp2
    refine ⟨by simp, .inl ⟨_, _, rfl, run_takeDeferred hK, ?_⟩⟩
    exact ⟨_, results_none rfl _ _ _, ⟨_, rfl⟩, .inl ⟨_, rfl, FIN.out⟩⟩
  case stop =>
    rintro D c pre X hD hp ⟨rfl, hj⟩ hK
    have FIN := aside (HJx.out.putObj (.deferred none) hj (by have := VS.out; omega) hK rfl)
    clear hj
    gi_wp2
    refine ⟨by simp, .inl ⟨_, _, rfl, run_takeDeferred hK, ?_⟩⟩
    exact ⟨_, results_none rfl _ _ _, ⟨_, rfl⟩, .inr ⟨_, entsOf_prefix hp, FIN.out⟩⟩

end Go.Proofs.YtlgcdcjhflihiaaDoor
namespace Go.Proofs.YtlgcdcjhflihiaaDoor
open Go.RowKit Go.Shelf
set_option linter.unusedVariables false

/-- As SeqO, for items of which Ok is known. -/
def SeqW {α : Type} (P : Program) (g : Nat) (lb : Array Value) (encs : α → Array Value) (Kp : World → World → Prop) (Ok : α → Prop) (S Sp : List α → Prop) (N : Nat) (w : World) : Prop :=
  ∀ (m l : Nat) (J Jx : List α → World → Prop) (W : World), Below w.heap.size w W → OwnFrom W.heap.size J → OwnFrom W.heap.size Jx →
    (∀ pre x W1, Ok x → J pre W1 → pre.length < N → YieldAt Fence.wide m P l (encs x) W1 fun e W' =>
      KeepsFrom W.heap.size W1 W' ∧ ((e = .returned (.bool true) ∧ J (pre ++ [x]) W' ∧ Kp W1 W') ∨ (e = .returned (.bool false) ∧ Jx (pre ++ [x]) W'))) →
    J [] W →
    Calls P g (#[.func (.yield l) #[] #[]] ++ lb) W fun e W' => (∃ v, e = .returned v) ∧ ((∃ xs, S xs ∧ J xs W') ∨ (∃ pre, Sp pre ∧ Jx pre W'))

theorem SeqW.of_below {α : Type} {P : Program} {g : Nat} {lb : Array Value} {encs : α → Array Value} {Kp : World → World → Prop} {Ok : α → Prop} {S Sp : List α → Prop} {N : Nat} {w w' : World} (h : SeqW P g lb encs Kp Ok S Sp N w) (b : Below w.heap.size w w') : SeqW P g lb encs Kp Ok S Sp N w' :=
  fun m l J Jx W hW => h m l J Jx W (b.trans (hW.mono b.size))

/-- A loop over such an iterator. -/
theorem rangeW {P : Program} {n : Nat} {α : Type} {g : Operand} {ps : Array Tmp} {assign body : Code} {Q : Exit → Act → World → Prop} {a : Act} {w : World}
    {gf : Nat} {lb : Array Value} (hg : a.eval g = .func (.func gf) #[] lb) (eg : ∀ args w, (callFunc gf args).run P w = .ok (.enter gf args) w)
    {encs : α → Array Value} {Kp : World → World → Prop} {S Sp : List α → Prop} {N : Nat} {w0 : World} {Ok : α → Prop} (hseq : SeqW P gf lb encs Kp Ok S Sp N w0)
    (hKt : ∀ {A B C : World}, Kp A B → Kp B C → Kp A C) (hKb : ∀ (W : World) (l : Nat) (o o' : Obj), w.heap.size ≤ l → W.heap[l]? = some o → o.isCells = false → Kp W (W.putObj l o')) (hb0 : Below w0.heap.size w0 w) (hps : ∀ x, (encs x).size = ps.size)
    (I : List α → World → Prop) (Ix : Code → List α → World → Prop) (hI : OwnFrom w.heap.size I) (hIx : ∀ c, OwnFrom w.heap.size (Ix c)) (h0 : I [] w) (Ax : α → Act → World → Prop) (hAx : ∀ x a', OwnFrom w.heap.size (fun (_ : Unit) W => Ax x a' W))
    (hassign : ∀ (l : Nat) (pre : List α) (x : α) (W : World) (K : Act → World → Prop), I pre W → (∀ a' W', KeepsFrom w.heap.size W W' → Kp W W' → I pre W' → Ax x a' W' → K a' W') →
      assign.wpIn (Fence.wide.inRound l) (n - 1 - 1) P (Exit.then K (fun _ _ _ => False)) { tmps := (ps.zip (encs x)).foldl (fun t (p, v) => t.setIfInBounds p v) a.tmps, defers := [] } W)
    (hbody : ∀ (l : Nat) (pre : List α) (x : α) (a' : Act) (W : World), I pre W → Ax x a' W → pre.length < N → Ok x → body.wpIn (Fence.wide.inRound l) (n - 1 - 1) P (ownPostG w.heap.size Kp I Ix (pre ++ [x]) W) a' W)
    (hdone : ∀ (D : Nat) (xs : List α) (W : World), w.heap.size ≤ D → S xs → I xs W → W.heap[D]? = some (.deferred (some [])) → Q .normal { a with defers := { target := .collected D, args := #[] } :: a.defers } W)
    (hstop : ∀ (D : Nat) (c : Code) (pre : List α) (W : World), w.heap.size ≤ D → Sp pre → Ix c pre W → W.heap[D]? = some (.deferred (some [])) → c.wpIn Fence.wide n P Q { a with defers := { target := .collected D, args := #[] } :: a.defers } W) :
    (Code.rangeFunc g ps assign body).wpIn Fence.wide n P Q a w := by
  refine wpIn_rangeFunc fun fn hfn => ?_
  obtain ⟨B, hB⟩ : ∃ B, w.heap.size = B := ⟨_, rfl⟩
  obtain ⟨R, hR⟩ : ∃ R : LoopState → Option Code → Loop, R = fun st pe => { state := st, pending := pe, fn, tmps := a.tmps, params := ps, assign, body, defers := B } := ⟨_, rfl⟩
  obtain ⟨V, hV⟩ : ∃ V, (w.alloc (.deferred (some []))).alloc (.loop (R .ready none)) = V := ⟨_, rfl⟩
  have bV : Below w.heap.size w V := by rw [← hV]; exact ((Below.refl _ w).alloc (Nat.le_refl _) _).alloc (by simp) _
  have sV : V.heap.size = B + 2 := by rw [← hV, ← hB]; simp
  have kV : Bk B (R .ready none) V := by
    rw [← hV, ← hB]
    have h2 := heap_alloc_new (w.alloc (.deferred (some []))) (.loop (R .ready none))
    rw [World.size_alloc] at h2
    exact ⟨h2, (Below.heap_alloc _ _ _ (by simp)).trans (heap_alloc_new w _)⟩
  have iV : I [] V := by rw [← hV]; exact hI.alloc _ (hI.alloc _ h0)
  rw [hB] at hI hIx hAx hKb hassign hbody hdone hstop
  refine ⟨B + 1, [{ target := .collected B, args := #[] }], V, { target := .fn (.func gf) lb, args := #[.func (.yield (B + 1)) #[] #[]] }, V, gf, #[.func (.yield (B + 1)) #[] #[]] ++ lb, V, ?_, ?_, fun _ _ => trivial, ?_, fun h => (by cases h), ?_⟩
  · rw [← hV, hR, ← hB]; exact run_enterLoop_outer _ _ _ _ _
  · simp only [resolve, hg]
    simp [go_sem]
  · simp [invoke, go_sem, eg]
  refine callsIn_wide.2 ?_
  -- the iterator is told: the invariant, and the loop's own blocks
  refine (hseq (n - 1 - 1) (B + 1) (fun pre W => I pre W ∧ Bk B (R .ready none) W) (fun pre W => ∃ c, Ix c pre W ∧ Bk B (R .done (some c)) W) V (hb0.trans (bV.mono hb0.size)) (Bk.own hI (by omega))
    (fun s W W' row hs g hr => by
      obtain ⟨c, h1, h2⟩ := hs
      exact ⟨c, Bk.own (hIx c) (Nat.le_of_eq sV.symm) s W W' row ⟨h1, h2⟩ g hr⟩) ?_ ⟨iV, kV⟩).mono ?_
  · rintro pre x W hok ⟨hi, hk⟩ hlen
    have hy := run_yield (P := P) (args := encs x) hk.lp (by rw [hR]; exact hps x)
    rw [hR] at hy
    refine ⟨fn, _, assign, body, hy, roundIn_of_wpIn hfn (hassign _ pre x W _ hi ?_)⟩
    intro a' Wa kf kp ia ax
    have ka := hk.kept kf
    refine ⟨_, run_beginRound ka.lp (by rw [hR]), ?_⟩
    have kb := ka.put { R .ready none with state := .busy }
    refine wpIn_mono (hbody _ pre x a' _ (hI.putObj _ ia (by omega) ka.lp rfl) ((hAx x a').putObj (s := ()) _ ax (by omega) ka.lp rfl) hlen hok) ?_
    have turn : ∀ (j : Option Code) (W3 : World), KeepsFrom B (Wa.putObj (B + 1) (.loop { R .ready none with state := .busy })) W3 →
        ∃ W4, KeepsFrom (B + 2) W W4 ∧ W4 = W3.putObj (B + 1) (.loop (R (if j.isNone then .ready else .done) j)) ∧ (Instr.endRound (B + 1) j).run P W3 = .ok (.bool j.isNone) W4 ∧ Bk B (R (if j.isNone then .ready else .done) j) W4 ∧ (∃ o, W3.heap[B + 1]? = some o ∧ o.isCells = false) := fun j W3 k3 => by
      have k4 := kb.kept k3
      have e := run_endRound (P := P) j k4.lp
      refine ⟨_, (((keepsFrom_up kf (by omega)).trans (keepsFrom_put _ _ _ _ (by omega))).trans (keepsFrom_up k3 (by omega))).trans (keepsFrom_put _ _ _ _ (by omega)), rfl, ?_, k4.put _, _, k4.lp, rfl⟩
      rw [hR] at e ⊢
      exact e
    have leave : ∀ (c : Code) (W3 : World), KeepsFrom B (Wa.putObj (B + 1) (.loop { R .ready none with state := .busy })) W3 → Ix c (pre ++ [x]) W3 →
        ∃ W4, KeepsFrom (B + 2) W W4 ∧ (Instr.endRound (B + 1) (some c)).run P W3 = .ok (.bool false) W4 ∧ ∃ c, Ix c (pre ++ [x]) W4 ∧ Bk B (R .done (some c)) W4 := fun c W3 k3 i3 => by
      obtain ⟨W4, kk, rfl, e, k4, o, h1, h2⟩ := turn (some c) W3 k3
      exact ⟨_, kk, e, c, (hIx c).putObj _ i3 (by omega) h1 h2, k4⟩
    rintro ex a3 W3 hp
    cases ex with
    | normal =>
      obtain ⟨W4, kk, rfl, e, k4, o, h1, h2⟩ := turn none W3 hp.1
      exact ⟨_, _, e, (by rw [sV]; exact kk), .inl ⟨rfl, ⟨hI.putObj _ hp.2.2 (by omega) h1 h2, k4⟩, hKt kp (hKt (hKt (hKb _ _ _ _ (by omega) ka.lp rfl) hp.2.1) (hKb _ _ _ _ (by omega) h1 h2))⟩⟩
    | ret => obtain ⟨W4, kk, e, i4⟩ := leave .ret W3 hp.1 hp.2; exact ⟨_, _, e, (by rw [sV]; exact kk), .inr ⟨rfl, i4⟩⟩
    | exit id => obtain ⟨W4, kk, e, i4⟩ := leave (.exit id) W3 hp.1 hp.2; exact ⟨_, _, e, (by rw [sV]; exact kk), .inr ⟨rfl, i4⟩⟩
    | goto t => obtain ⟨W4, kk, e, i4⟩ := leave (.goto t) W3 hp.1 hp.2; exact ⟨_, _, e, (by rw [sV]; exact kk), .inr ⟨rfl, i4⟩⟩
    | panic c => exact hp.elim
    | outgrown => exact hp.elim
  · rintro e W2 ⟨⟨v, rfl⟩, ⟨xs, hS, hi, hk⟩ | ⟨pre, hSp, c, hi, hk⟩⟩
    · refine ⟨none, _, ?_, hdone B xs _ (Nat.le_refl _) hS (hI.putObj (.loop { R .ready none with state := .exhausted }) hi (by omega) hk.lp rfl) (hk.put _).def_⟩
      have e := run_endLoop (P := P) hk.lp (by rw [hR]; simp)
      rw [hR] at e ⊢
      exact e
    · refine ⟨some c, _, ?_, hstop B c pre _ (Nat.le_refl _) hSp ((hIx c).putObj (.loop { R .done (some c) with state := .exhausted }) hi (by omega) hk.lp rfl) (hk.put _).def_⟩
      have e := run_endLoop (P := P) hk.lp (by rw [hR]; simp)
      rw [hR] at e ⊢
      exact e

end Go.Proofs.YtlgcdcjhflihiaaDoor
namespace Go.Proofs.YtlgcdcjhflihiaaDoor
open Go.RowKit Go.Shelf
set_option linter.unusedVariables false

attribute [local go_sem] Oper.semAt_some

/-- What a round over such an iterator keeps: nodes and yields that lay there. -/
def KpA (A B : World) : Prop := Stay 120 A B ∧ Stay 124 A B

theorem KpA.refl (A : World) : KpA A A := ⟨Stay.refl _ _, Stay.refl _ _⟩
theorem KpA.t {A B C : World} (h : KpA A B) (h2 : KpA B C) : KpA A C := ⟨h.1.trans h2.1, h.2.trans h2.2⟩
theorem KpA.alloc {A B : World} (h : KpA A B) (o : Obj) : KpA A (B.alloc o) := ⟨h.1.alloc o, h.2.alloc o⟩
theorem KpA.drew {A B : World} (h : KpA A B) : KpA A B.drew := ⟨h.1.drew, h.2.drew⟩
theorem KpA.b (W : World) (l : Nat) (o o' : Obj) (h : W.heap[l]? = some o) (ho : o.isCells = false) : KpA W (W.putObj l o') := by
  have s : ∀ T, Stay T W (W.putObj l o') := fun T i cs e => by
    by_cases hi : i = l
    · subst hi; rw [h] at e; injection e with e; subst e; cases ho
    · exact (World.putObj_heap_other hi).trans e
  exact ⟨s _, s _⟩

set_option maxHeartbeats 8000000 in
set_option maxRecDepth 100000 in
theorem allT1 {w : World} {hb : Nat} {lbS : Array Value} {sg : List (Rw En Tl)} {Ok : Rw En Tl → Prop} (hh : w.heap[hb]? = some (.cells #[.func (.func 58) #[] lbS] 94 (0, 0)))
    (hs : SeqW Tryd.prog 58 lbS encs2 KpA Ok (fun ys => ys = sg) (fun q => q <+: sg) sg.length w) :
    SeqW Tryd.prog 67 #[.pointer (some ⟨hb, 0, none⟩)] encs2 KpA Ok (fun ys => ys = sg) (fun q => q <+: sg) sg.length w := by
  intro m l J Jx W hW hJ hJx hY h0
  have hh' := blk_on hh hW
  have b1 := bnew W (.cells #[.func (.yield l) #[] #[]] 124)
  have yb := heap_alloc_new W (.cells #[.func (.yield l) #[] #[]] 124)
  have c0 := cell_one (blk_on hh' b1)
  have BW := aside (bthen hW b1)
  have J0 := aside (hJ.alloc (.cells #[.func (.yield l) #[] #[]] 124) h0)
  have YV := aside yb
  have HY := aside hY
  have HS := aside hs
  clear hh hs hh' b1 yb hY h0
  refine (callsIn_wide (n := m + 3)).1 ?_
  refine callsIn_of_wp_marks Tryd.func67 rfl trivial ?_ rfl
  simp only [Tryd.ntmps67, List.size_toArray, List.length_cons, List.length_nil, Nat.reduceAdd, Nat.reduceSub, Array.replicate_succ, Array.replicate_zero, List.push_toArray, List.append_toArray, List.nil_append, List.cons_append]
  gi_wp2_with fail
  have VS := aside (show W.heap.size + 1 = (W.alloc (.cells #[.func (.yield l) #[] #[]] 124)).heap.size from by simp)
  have HJ := aside hJ
  have HJx := aside hJx
  clear c0 hJ hJx hW
  generalize W.alloc (.cells #[.func (.yield l) #[] #[]] 124) = V at *
  have ownI : OwnFrom V.heap.size (fun (pre : List (Rw En Tl)) X => J pre X ∧ X.heap[W.heap.size]? = some (.cells #[.func (.yield l) #[] #[]] 124 (0, 0))) := fun s A B row hs hg hr =>
    have hr' : ∀ r, row = some r → ∃ o : Obj, A.heap[r]? = some o ∧ o.isCells = false := fun r e => (hr r e).2
    ⟨HJ.out _ A B row hs.1 hg (fun r e => ⟨by have := (hr r e).1; have := VS.out; omega, (hr r e).2⟩), cells_own hs.2 hg hr'⟩
  refine rangeW rfl (enters_of Tryd.func58 (by kernel_rfl) rfl) HS.out KpA.t (fun W l o o' _ h ho => KpA.b W l o o' h ho) BW.out (fun _ => rfl)
    (fun (pre : List (Rw En Tl)) X => J pre X ∧ X.heap[W.heap.size]? = some (.cells #[.func (.yield l) #[] #[]] 124 (0, 0)))
    (fun c pre X => c = .ret ∧ Jx pre X) ownI (fun c s A B row hs hg hr => ⟨hs.1, HJx.out _ A B row hs.2 hg (fun r e => ⟨by have := (hr r e).1; have := VS.out; omega, (hr r e).2⟩)⟩) ⟨J0.out, YV.out⟩
    (fun x a' X => ∃ eb : Nat, a' = ⟨#[.func (.yield l) #[] #[], .pointer (some ⟨hb, 0, none⟩), .pointer (some ⟨W.heap.size, 0, none⟩), .string x.k, .pointer (some ⟨eb, 0, none⟩), .func (.func 58) #[] lbS, .string x.k, .agg #[.string x.v.k, .int .i64 x.v.c, .int .i64 x.v.n, .string x.v.v, .bool x.v.d], undef, undef, undef, undef, undef], []⟩ ∧ X.heap[eb]? = some (.cells #[.string x.v.k, .int .i64 x.v.c, .int .i64 x.v.n, .string x.v.v, .bool x.v.d] 39 (0, 0)))
    (fun x a' _ A B row hs hg hr => by
      obtain ⟨eb, h1, h2⟩ := hs
      exact ⟨eb, h1, cells_own h2 hg (fun r e => (hr r e).2)⟩) ?assign ?body ?done ?stop
  case assign =>
    intro l' pre x X K hi hK
    dsimp only [encs2]
    gi_wp2
    refine hK _ _ ?_ ?_ ?_ ⟨_, rfl, heap_alloc_new X _⟩
    · exact KeepsFrom.of_grownBy (World.grownBy_alloc X _ none) (fun j e => by cases e)
    · exact (KpA.refl X).alloc _
    · exact ownI.alloc _ hi
  case body =>
    rintro l' pre ⟨xk, ⟨vk, vc, vn, vv, vd⟩, xs⟩ a' X ⟨hj, hy⟩ ⟨eb, rfl, he⟩ hlen hok
    dsimp only at he ⊢
    obtain ⟨e0, e1, e2, e3, e4, -⟩ := penta he
    have Y0 := cell_one hy
    have HX := aside (show J pre X ∧ X.heap[W.heap.size]? = some (.cells #[.func (.yield l) #[] #[]] 124 (0, 0)) from ⟨hj, hy⟩)
    clear hy he
    obtain ⟨fn, tmps, assign, body, hy, hR⟩ := HY.out pre ⟨xk, ⟨vk, vc, vn, vv, vd⟩, xs⟩ X hok hj hlen
    dsimp only [encs2] at hy
    have HR := aside hR
    clear hR hj hlen hok
    gi_wp2_with fail
    refine HR.out.mono ?_
    rintro e X3 ⟨kf, ⟨rfl, hj3, kp3⟩ | ⟨rfl, hx3⟩⟩
    · have KF := aside (keepsFrom_up kf (show W.heap.size ≤ V.heap.size from by have := VS.out; omega))
      have KP := aside kp3
      have J3 := aside hj3
      clear kf kp3 hj3 hy
      gi_wp2
      exact ⟨KF.out, KP.out, J3.out, KP.out.2 _ _ HX.out.2⟩
    · have KF := aside (keepsFrom_up kf (show W.heap.size ≤ V.heap.size from by have := VS.out; omega))
      have X3' := aside hx3
      clear kf hx3 hy
      gi_wp2
      exact ⟨KF.out, rfl, X3'.out⟩
  case done =>
    rintro D xs X hD rfl ⟨hj, hy⟩ hK
    have FIN := aside (HJ.out.putObj (.deferred none) hj (by have := VS.out; omega) hK rfl)
    clear hj hy
    gi_wp2
    refine ⟨by simp, .inl ⟨_, _, rfl, run_takeDeferred hK, ?_⟩⟩
    exact ⟨_, results_none rfl _ _ _, ⟨_, rfl⟩, .inl ⟨_, rfl, FIN.out⟩⟩
  case stop =>
    rintro D c pre X hD hp ⟨rfl, hj⟩ hK
    have FIN := aside (HJx.out.putObj (.deferred none) hj (by have := VS.out; omega) hK rfl)
    clear hj
    gi_wp2
    refine ⟨by simp, .inl ⟨_, _, rfl, run_takeDeferred hK, ?_⟩⟩
    exact ⟨_, results_none rfl _ _ _, ⟨_, rfl⟩, .inr ⟨_, hp, FIN.out⟩⟩

/-- Span's iterator, with what is known of its rows. -/
theorem spanW {w : World} {p : Option Addr} {T : Tr En Tl} {I K : Int} {lb : Array Value} {Ok : Rw En Tl → Prop} (h : SpanV w lb p I K) (hT : IsTE w p T) (hc : T.cnt ≤ 4611686018427387904) (hok : ∀ x ∈ T.rows, Ok x) (hK : -4611686018427387904 ≤ K) {N : Nat} (hN : (spanL T I K).length ≤ N) {Kp : World → World → Prop} (hKp : ∀ A B, Kp A B → Stay 120 A B) :
    SeqW Tryd.prog 58 lb encs2 Kp Ok (fun ys => ys = spanL T I K) (fun q => q <+: spanL T I K) N w :=
  fun m l J Jx W hW hJ hJx hY h0 => span0 h hT hc hok hK hN hKp m l J Jx W hW (fun s W1 hs => hJ s W1 W1.drew none hs ⟨rfl, rfl, rfl, Nat.le_refl _, fun _ _ _ => rfl⟩ (fun r e => by cases e)) (fun pre x W1 ho hp hl => (hY pre x W1 ho hp hl).mono (fun _ _ h => h.2)) h0

end Go.Proofs.YtlgcdcjhflihiaaDoor

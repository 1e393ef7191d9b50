/-
  Span: an iterator over the rows that there were.
  Scan and All: an iterator over entries that goes over the one of the tree.
  Scan and All; all that a store holds.
  The document's store: what All goes through, what Fold tells.
  Names of sessions: which may be, how they compare; the code's calls and the document's own, each as a plain function.
  Parts of frames, plain: which may be, one by one and all of them.
  Lists of parts in memory.
  The code's small calls on parts and frames.
  checkEntries and checkPart, the code's.
  countEntries, CheckParts, isOpening and Check, the code's.
  What a range comes to, plain; what is stored beside a store.
  Print, and what it stands on.
  Print.
-/
import Derived.Test.YtpbkjffiohfkcaaDoorBp10
import Derived.Test.YtpbkjffiohfkcaaDoorBp9
import Derived.Test.YtpbkjffiohfkcaaDoorBp8
import Derived.Laws.EntriesVeiled
import Derived.OwnWalkIn
import Derived.RangeFuncBox
import Derived.Test.YtpbkjffiohfkcaaDoorBp7
import Derived.Test.YtpbkjffiohfkcaaDoorBp1
import Derived.Laws.StructEq
import Derived.Deep.RegionHeld
import Derived.Deep.Cut
namespace Go.Proofs.YtpbkjffiohfkcaaDoor
open Go.RowKit Go.Shelf
set_option linter.unusedVariables false
/-- An iterator over the rows of the tree at p, from I on below K. -/
def SpanV (w : World) (lb : Array Value) (p : Option Addr) (I K : Int) : Prop :=
  ∃ rb ib jb : Nat, lb = #[.pointer (some ⟨rb, 0, none⟩), .pointer (some ⟨ib, 0, none⟩), .pointer (some ⟨jb, 0, none⟩)] ∧ w.heap[rb]? = some (.cells #[.pointer p] 97 (0, 0)) ∧ w.heap[ib]? = some (.cells #[.int .i64 I] 3 (0, 0)) ∧ w.heap[jb]? = some (.cells #[.int .i64 K] 3 (0, 0))
theorem SpanV.below {w w' : World} {lb : Array Value} {p : Option Addr} {I K : Int} (h : SpanV w lb p I K) (b : Below w.heap.size w w') : SpanV w' lb p I K := by
  obtain ⟨rb, ib, jb, h1, h2, h3, h4⟩ := h
  exact ⟨rb, ib, jb, h1, blk_on h2 b, blk_on h3 b, blk_on h4 b⟩
set_option maxHeartbeats 3200000 in
set_option maxRecDepth 100000 in
theorem yspan (I K : Int) {w : World} {tb : Nat} {jv : Value} {p : Option Addr} (ht : TObjE w tb jv p) :
    Calls Tryd.prog 58 #[.pointer (some ⟨tb, 0, none⟩), .int .i64 I, .int .i64 K] w fun e w' => ∃ lb, e = .returned (.func (.func 71) #[] lb) ∧ SpanV w' lb p I K ∧ Below w.heap.size w w' := by
  have hmf : ∀ (fn : Fn) (first cap : Array Value) (w : World), (Instr.makeFunc fn first cap).run Tryd.prog w = .ok (.func fn first cap) w := fun _ _ _ _ => rfl
  have b0 := bnew w (.cells #[.int .i64 I] 3)
  have b1 := bnew (w.alloc (.cells #[.int .i64 I] 3)) (.cells #[.int .i64 K] 3)
  have b2 := bnew ((w.alloc (.cells #[.int .i64 I] 3)).alloc (.cells #[.int .i64 K] 3)) (.cells #[.pointer p] 97)
  have G0 := aside (blk_on (blk_on (heap_alloc_new w (.cells #[.int .i64 I] 3)) b1) b2)
  have g1 := blk_on (heap_alloc_new (w.alloc (.cells #[.int .i64 I] 3)) (.cells #[.int .i64 K] 3)) b2
  have g2 := heap_alloc_new ((w.alloc (.cells #[.int .i64 I] 3)).alloc (.cells #[.int .i64 K] 3)) (.cells #[.pointer p] 97)
  simp only [World.size_alloc] at g1 g2
  have G1 := aside g1
  have G2 := aside g2
  have B := aside (bthen (bthen b0 b1) b2)
  have ht' : TObjE ((w.alloc (.cells #[.int .i64 I] 3)).alloc (.cells #[.int .i64 K] 3)) tb jv p := blk_on (blk_on ht b0) b1
  obtain ⟨-, -, -, -, r0, -⟩ := tobjE ht'
  clear ht ht' g1 g2 b0 b1 b2
  go_enter Tryd.func58, Tryd.ntmps58
  go_wp2
  go_ret
  exact ⟨_, rfl, ⟨_, _, _, rfl, G2.out, G0.out, G1.out⟩, B.out⟩
/-- The rows that such an iterator hands out. -/
def spanL (T : Tr En Tl) (I K : Int) : List (Rw En Tl) := seg T.rows (max I 0).toNat (min K (T.cnt : Int)).toNat
theorem max_if (I : Int) : (if I < 0 then 0 else I) = max I 0 := by omega
theorem min_if (K c : Int) : (if c < K then c else K) = min K c := by omega
set_option maxHeartbeats 6400000 in
set_option maxRecDepth 100000 in
theorem span0 {w : World} {p : Option Addr} {T : Tr En Tl} {I K : Int} {lb : Array Value} {Ok : Rw En Tl → Prop} (h : SpanV w lb p I K) (hT : IsTE w p T) (hc : T.cnt ≤ 4611686018427387904) (hok : ∀ x ∈ T.rows, Ok x) (hK : -4611686018427387904 ≤ K) {N : Nat} (hN : (spanL T I K).length ≤ N) {Kp : World → World → Prop} (hKp : ∀ A B, Kp A B → Stay 107 A B)
    (m l : Nat) (J Jx : List (Rw En Tl) → World → Prop) (W : World) (hW : Below w.heap.size w W) (hd : ∀ s W, J s W → J s W.drew) (hY : YOk Ok l m N Kp J Jx) (h0 : J [] W) :
    Calls Tryd.prog 71 (#[.func (.yield l) #[] #[]] ++ lb) W fun e W' => (∃ v, e = .returned v) ∧ ((∃ xs, xs = spanL T I K ∧ J xs W') ∨ (∃ pre, pre <+: spanL T I K ∧ Jx pre W')) := by
  have h' := h.below hW
  obtain ⟨rb, ib, jb, rfl, g0, g1, g2⟩ := h'
  have hT' : IsTE W p T := hT.on (fun _ _ e => blk_on e hW)
  have CW := aside (walkE hKp hd hY T hc hok (max I 0) (min K (T.cnt : Int)) p [] W.drew (hT'.on (Stay.refl _ _).drew) (by omega) (by omega) (hd _ _ h0) (by
    have e1 : (spanL T I K).length = (min K (T.cnt : Int)).toNat - (max I 0).toNat := by
      unfold spanL seg
      have := Tr.rows_length T
      simp only [List.length_drop, List.length_take]
      omega
    simp only [List.length_nil]
    omega) (by omega))
  have CR := aside (rowsE (hT'.on (Stay.refl _ W).drew))
  rw [show seg T.rows (max I 0).toNat (min K (T.cnt : Int)).toNat = spanL T I K from rfl] at CW
  generalize spanL T I K = sg at *
  have HS := aside (show W.cell? ⟨rb, 0, none⟩ = some (.pointer p) ∧ W.cell? ⟨ib, 0, none⟩ = some (.int .i64 I) ∧ W.cell? ⟨jb, 0, none⟩ = some (.int .i64 K) from ⟨cell_one g0, cell_one g1, cell_one g2⟩)
  obtain ⟨c, hcc⟩ : ∃ c : Int, (T.cnt : Int) = c := ⟨_, rfl⟩
  rw [hcc] at CW CR
  obtain ⟨a, ha⟩ : ∃ a : Int, max I 0 = a := ⟨_, rfl⟩
  obtain ⟨b, hb⟩ : ∃ b : Int, min K c = b := ⟨_, rfl⟩
  rw [ha, hb] at CW
  have HA := aside ((max_if I).trans ha)
  have HB := aside ((min_if K c).trans hb)
  clear h hT hT' g0 g1 g2 hY h0 hd hcc ha hb hc hK hN hW hok
  show Calls Tryd.prog 71 #[.func (.yield l) #[] #[], .pointer (some ⟨rb, 0, none⟩), .pointer (some ⟨ib, 0, none⟩), .pointer (some ⟨jb, 0, none⟩)] W _
  go_enter Tryd.func71, Tryd.ntmps71
  go_wp2_with fail
  refine wp_region_until (z := 8) (S := fun X => X.cell? ⟨rb, 0, none⟩ = some (.pointer p) ∧ X.cell? ⟨ib, 0, none⟩ = some (.int .i64 I) ∧ X.cell? ⟨jb, 0, none⟩ = some (.int .i64 K)) (by kernel_rfl) HS.out (fun hHeld => ?_)
  refine Until.take (i := 0) (v := ?_) [8] rfl (by kernel_rfl) (by kernel_rfl) (by kernel_rfl) (by kernel_rfl) (by rfl) (by rfl) (by kernel_rfl) (fun _ _ _ h => h) (Or.inl ⟨by rfl, ?_⟩) (by assumption) ?_
  rotate_left
  · intro w hSw
    go_simp
    try with_reducible rfl
  simp only [Act.put, List.getElem_toArray, List.getElem_cons_zero, List.setIfInBounds_toArray, List.set_cons_zero, List.set_cons_succ]
  refine Until.take (i := 1) (v := ?_) [2, 8] rfl (by kernel_rfl) (by kernel_rfl) (by kernel_rfl) (by kernel_rfl) (by rfl) (by rfl) (by kernel_rfl) (fun _ _ _ h => h) (Or.inl ⟨by rfl, ?_⟩) (by assumption) ?_
  rotate_left
  · intro w hSw
    go_simp
    try with_reducible rfl
  simp only [Act.put, List.getElem_toArray, List.getElem_cons_zero, List.getElem_cons_succ, List.setIfInBounds_toArray, List.set_cons_zero, List.set_cons_succ]
  refine Until.take (i := 2) (v := ?_) [8] rfl (by kernel_rfl) (by kernel_rfl) (by kernel_rfl) (by kernel_rfl) (by rfl) (by rfl) (by kernel_rfl) (fun _ _ _ h => h) (Or.inl ⟨by rfl, ?_⟩) (by assumption) ?_
  rotate_left
  · intro w hSw
    go_simp
    try with_reducible rfl
  simp only [Act.put, List.getElem_toArray, List.getElem_cons_zero, List.getElem_cons_succ, List.setIfInBounds_toArray, List.set_cons_zero, List.set_cons_succ]
  rw [HA.out]
  refine Until.take (i := 3) (v := ?_) [6, 8] rfl (by kernel_rfl) (by kernel_rfl) (by kernel_rfl) (by kernel_rfl) (by rfl) (by rfl) (by kernel_rfl) (fun _ _ _ h => h) (Or.inl ⟨by rfl, ?_⟩) (by assumption) ?_
  rotate_left
  · intro w hSw
    go_simp
    try with_reducible rfl
  simp only [Act.put, List.getElem_toArray, List.getElem_cons_zero, List.getElem_cons_succ, List.setIfInBounds_toArray, List.set_cons_zero, List.set_cons_succ]
  refine Until.take (i := 4) (v := ?_) [5, 6, 8] rfl (by kernel_rfl) (by kernel_rfl) (by kernel_rfl) (by kernel_rfl) (by rfl) (by rfl) (by kernel_rfl) (fun _ _ _ h => h) (Or.inl ⟨by rfl, ?_⟩) (by assumption) ?_
  rotate_left
  · intro w hSw
    go_simp
    try with_reducible rfl
  simp only [Act.put, List.getElem_toArray, List.getElem_cons_zero, List.getElem_cons_succ, List.setIfInBounds_toArray, List.set_cons_zero, List.set_cons_succ]
  refine Until.takeY (i := 7) (v := ?_) rfl (by kernel_rfl) (by kernel_rfl) (by kernel_rfl) (by rfl) (fun _ _ _ h => h) (Or.inl ⟨by rfl, ?_⟩) (by assumption) ?_
  rotate_left
  · intro w hSw
    go_simp
    try with_reducible rfl
  simp only [Act.put, List.getElem_toArray, List.getElem_cons_zero, List.getElem_cons_succ, List.setIfInBounds_toArray, List.set_cons_zero, List.set_cons_succ]
  refine Until.step (i := 5) (by kernel_rfl) rfl (by rfl) (fun K' hK' => ?_)
  go_simp
  refine CR.out.mono ?_
  rintro e w9 ⟨rfl, rfl⟩
  refine hK'.out _ _ hHeld (fun hHeld => ?_)
  clear hK' K'
  refine Until.take (i := 6) (v := ?_) [8] rfl (by kernel_rfl) (by kernel_rfl) (by kernel_rfl) (by kernel_rfl) (by rfl) (by rfl) (by kernel_rfl) (fun _ _ _ h => h) (Or.inl ⟨by rfl, ?_⟩) (by assumption) ?_
  rotate_left
  · intro w hSw
    go_simp
    try with_reducible rfl
  simp only [Act.put, List.getElem_toArray, List.getElem_cons_zero, List.getElem_cons_succ, List.setIfInBounds_toArray, List.set_cons_zero, List.set_cons_succ]
  rw [HB.out]
  refine Until.last (by kernel_rfl) rfl (fun K' hK' => ?_)
  go_simp
  refine CW.out.mono ?_
  rintro e w8 (⟨rfl, h1, h2⟩ | ⟨rfl, q, h1, h2⟩)
  · refine hK'.out _ _ ?_
    clear hK' K'
    refine wpAny_of_held (S := fun _ => True) _ _ _ _ ?_
    refine wpAnyH_done (by kernel_rfl) ?_ _
    have H1 := aside h1
    clear h1 h2
    go_wp2
    go_end0
    exact ⟨⟨_, rfl⟩, .inl ⟨_, rfl, by have h9 := H1.out; simpa using h9⟩⟩
  · refine hK'.out _ _ ?_
    clear hK' K'
    refine wpAny_of_held (S := fun _ => True) _ _ _ _ ?_
    refine wpAnyH_done (by kernel_rfl) ?_ _
    have H1 := aside h1
    have H2 := aside h2
    clear h1 h2
    go_wp2
    go_end0
    exact ⟨⟨_, rfl⟩, .inr ⟨q, by have h9 := H1.out; simpa using h9, H2.out⟩⟩
theorem span1 {w : World} {p : Option Addr} {T : Tr En Tl} {I K : Int} {lb : Array Value} (h : SpanV w lb p I K) (hT : IsTE w p T) (hc : T.cnt ≤ 4611686018427387904) (hK : -4611686018427387904 ≤ K) {n N : Nat} (hN : (spanL T I K).length ≤ N) {Kp : World → World → Prop} (hKp : ∀ A B, Kp A B → Stay 107 A B) :
    SeqStopsK Fence.wide n Tryd.prog 71 lb encs2 Kp (fun ys => ys = spanL T I K) (fun q => q <+: spanL T I K) N w := by
  intro l J Jx W hW hJ hJx hY h0
  have hd : ∀ s W, J s W → J s W.drew := fun s W1 hs => hJ s W1 W1.drew none hs ⟨rfl, rfl, rfl, Nat.le_refl _, fun _ _ _ => rfl⟩ (fun r e => by cases e)
  exact callsIn_wide.2 (span0 (Ok := fun _ => True) h hT hc (fun _ _ => trivial) hK hN hKp _ l J Jx W hW hd (fun pre x W1 _ hp hl => hY pre x W1 hp hl) h0)
end Go.Proofs.YtpbkjffiohfkcaaDoor
namespace Go.Proofs.YtpbkjffiohfkcaaDoor
open Go.RowKit Go.Shelf
set_option linter.unusedVariables false
attribute [local go_sem] Oper.semAt_some
/-- An entry, as it is handed out. -/
def encE (x : En) : Array Value := #[.agg #[.string x.k, .int .i64 x.c, .int .i64 x.n, .string x.v, .bool x.d]]
/-- What a round over such an iterator keeps: nodes, yields and bools that lay there. -/
def KpT (A B : World) : Prop := Stay 107 A B ∧ Stay 119 A B ∧ Stay 4 A B
theorem KpT.refl (A : World) : KpT A A := ⟨Stay.refl _ _, Stay.refl _ _, Stay.refl _ _⟩
theorem KpT.t {A B C : World} (h : KpT A B) (h2 : KpT B C) : KpT A C := ⟨h.1.trans h2.1, h.2.1.trans h2.2.1, h.2.2.trans h2.2.2⟩
theorem KpT.alloc {A B : World} (h : KpT A B) (o : Obj) : KpT A (B.alloc o) := ⟨h.1.alloc o, h.2.1.alloc o, h.2.2.alloc o⟩
theorem KpT.drew {A B : World} (h : KpT A B) : KpT A B.drew := ⟨h.1.drew, h.2.1.drew, h.2.2.drew⟩
theorem KpT.b (W : World) (l : Nat) (o o' : Obj) (h : W.heap[l]? = some o) (ho : o.isCells = false) : KpT W (W.putObj l o') := by
  have s : ∀ T, Stay T W (W.putObj l o') := fun T i cs e => by
    by_cases hi : i = l
    · subst hi; rw [h] at e; injection e with e; subst e; cases ho
    · exact (World.putObj_heap_other hi).trans e
  exact ⟨s _, s _, s _⟩
/-- The entries of rows; dead ones only if they are wanted. -/
def entsOf (dd : Bool) (l : List (Rw En Tl)) : List En := (l.map (·.v)).filter (fun e => dd || !e.d)
theorem entsOf_snoc (dd : Bool) (l : List (Rw En Tl)) (x : Rw En Tl) : entsOf dd (l ++ [x]) = entsOf dd l ++ (if dd || !x.v.d then [x.v] else []) := by
  unfold entsOf
  rw [List.map_append, List.filter_append]
  congr 1
  simp only [List.map_cons, List.map_nil]
  cases h : (dd || !x.v.d)
  · rw [List.filter_cons_of_neg (by simpa using h)]; simp
  · rw [List.filter_cons_of_pos (by simpa using h)]; simp
theorem entsOf_prefix {dd : Bool} {l m : List (Rw En Tl)} (h : l <+: m) : entsOf dd l <+: entsOf dd m := by
  obtain ⟨r, rfl⟩ := h
  unfold entsOf
  rw [List.map_append, List.filter_append]
  exact List.prefix_append _ _
theorem entsOf_length (dd : Bool) (l : List (Rw En Tl)) : (entsOf dd l).length ≤ l.length := by
  unfold entsOf
  exact Nat.le_trans (List.length_filter_le _ _) (by simp)
set_option maxHeartbeats 8000000 in
set_option maxRecDepth 100000 in
theorem thru1 {w : World} {hb db : Nat} {dd : Bool} {lbS : Array Value} {sg : List (Rw En Tl)} (hh : w.heap[hb]? = some (.cells #[.func (.func 71) #[] lbS] 117 (0, 0))) (hd : w.heap[db]? = some (.cells #[.bool dd] 4 (0, 0)))
    (hs : SeqO Tryd.prog 71 lbS encs2 KpT (fun ys => ys = sg) (fun q => q <+: sg) sg.length w) :
    SeqO Tryd.prog 59 #[.pointer (some ⟨hb, 0, none⟩), .pointer (some ⟨db, 0, none⟩)] encE KpT (fun ys => ys = entsOf dd sg) (fun q => q <+: entsOf dd sg) sg.length w := by
  intro m l J Jx W hW hJ hJx hY h0
  have hh' := blk_on hh hW
  have hd' := blk_on hd hW
  have b1 := bnew W (.cells #[.func (.yield l) #[] #[]] 119)
  have yb := heap_alloc_new W (.cells #[.func (.yield l) #[] #[]] 119)
  have c0 := cell_one (blk_on hh' b1)
  have BW := aside (bthen hW b1)
  have J0 := aside (hJ.alloc (.cells #[.func (.yield l) #[] #[]] 119) h0)
  have YV := aside yb
  have DV := aside (blk_on hd' b1)
  have HY := aside hY
  have HS := aside hs
  clear hh hd hs hh' hd' b1 yb hY h0
  refine (callsIn_wide (n := m + 3)).1 ?_
  refine callsIn_of_wp_marks Tryd.func59 rfl trivial ?_ rfl
  simp only [Tryd.ntmps59, List.size_toArray, List.length_cons, List.length_nil, Nat.reduceAdd, Nat.reduceSub, Array.replicate_succ, Array.replicate_zero, List.push_toArray, List.append_toArray, List.nil_append, List.cons_append]
  gi_wp2_with fail
  refine wpIn_wide.2 (wp_scope_straight ((wpIn_wide (n := m + 3)).1 ?_))
  refine wpIn_seq (wpIn_label ?_)
  gi_wp2_with fail
  have VS := aside (show W.heap.size + 1 = (W.alloc (.cells #[.func (.yield l) #[] #[]] 119)).heap.size from by simp)
  have HJ := aside hJ
  have HJx := aside hJx
  clear c0 hJ hJx hW
  generalize W.alloc (.cells #[.func (.yield l) #[] #[]] 119) = V at *
  have ownI : OwnFrom V.heap.size (fun (pre : List (Rw En Tl)) X => J (entsOf dd pre) X ∧ X.heap[W.heap.size]? = some (.cells #[.func (.yield l) #[] #[]] 119 (0, 0)) ∧ X.heap[db]? = some (.cells #[.bool dd] 4 (0, 0))) := fun s A B row hs hg hr =>
    have hr' : ∀ r, row = some r → ∃ o : Obj, A.heap[r]? = some o ∧ o.isCells = false := fun r e => (hr r e).2
    ⟨HJ.out _ A B row hs.1 hg (fun r e => ⟨by have := (hr r e).1; have := VS.out; omega, (hr r e).2⟩), cells_own hs.2.1 hg hr', cells_own hs.2.2 hg hr'⟩
  refine rangeO rfl (enters_of Tryd.func71 (by kernel_rfl) rfl) HS.out KpT.t (fun W l o o' _ h ho => KpT.b W l o o' h ho) BW.out (fun _ => rfl)
    (fun (pre : List (Rw En Tl)) X => J (entsOf dd pre) X ∧ X.heap[W.heap.size]? = some (.cells #[.func (.yield l) #[] #[]] 119 (0, 0)) ∧ X.heap[db]? = some (.cells #[.bool dd] 4 (0, 0)))
    (fun c pre X => c = .ret ∧ Jx (entsOf dd pre) X) ownI (fun c s A B row hs hg hr => ⟨hs.1, HJx.out _ A B row hs.2 hg (fun r e => ⟨by have := (hr r e).1; have := VS.out; omega, (hr r e).2⟩)⟩) ⟨J0.out, YV.out, DV.out⟩
    (fun x a' X => ∃ eb : Nat, a' = ⟨#[.func (.yield l) #[] #[], .pointer (some ⟨hb, 0, none⟩), .pointer (some ⟨db, 0, none⟩), .pointer (some ⟨W.heap.size, 0, none⟩), undef, .pointer (some ⟨eb, 0, none⟩), .func (.func 71) #[] lbS, .string x.k, .agg #[.string x.v.k, .int .i64 x.v.c, .int .i64 x.v.n, .string x.v.v, .bool x.v.d], undef, undef, undef, undef, undef, undef, undef, undef, undef, undef, undef, undef], []⟩ ∧ X.heap[eb]? = some (.cells #[.string x.v.k, .int .i64 x.v.c, .int .i64 x.v.n, .string x.v.v, .bool x.v.d] 54 (0, 0)))
    (fun x a' _ A B row hs hg hr => by
      obtain ⟨eb, h1, h2⟩ := hs
      exact ⟨eb, h1, cells_own h2 hg (fun r e => (hr r e).2)⟩) ?assign ?body ?done ?stop
  case assign =>
    intro l' pre x X K hi hK
    dsimp only [encs2]
    gi_wp2
    refine hK _ _ ?_ ?_ ?_ ⟨_, rfl, heap_alloc_new X _⟩
    · exact KeepsFrom.of_grownBy (World.grownBy_alloc X _ none) (fun j e => by cases e)
    · exact (KpT.refl X).alloc _
    · exact ownI.alloc _ hi
  case body =>
    rintro l' pre ⟨xk, ⟨vk, vc, vn, vv, vd⟩, xs⟩ a' X ⟨hj, hy, hd⟩ ⟨eb, rfl, he⟩ hlen
    dsimp only at he ⊢
    obtain ⟨e0, e1, e2, e3, e4, -⟩ := penta he
    have D0 := cell_one hd
    have Y0 := cell_one hy
    have HX := aside (show J (entsOf dd pre) X ∧ X.heap[W.heap.size]? = some (.cells #[.func (.yield l) #[] #[]] 119 (0, 0)) ∧ X.heap[db]? = some (.cells #[.bool dd] 4 (0, 0)) from ⟨hj, hy, hd⟩)
    have HLN := aside hlen
    have hsn := aside (entsOf_snoc dd pre ⟨xk, ⟨vk, vc, vn, vv, vd⟩, xs⟩)
    clear hj hy hd he hlen
    cases vd with
    | false =>
      rw [show (if dd || !(⟨xk, ⟨vk, vc, vn, vv, false⟩, xs⟩ : Rw En Tl).v.d then [(⟨xk, ⟨vk, vc, vn, vv, false⟩, xs⟩ : Rw En Tl).v] else []) = [⟨vk, vc, vn, vv, false⟩] from by simp] at hsn
      obtain ⟨fn, tmps, assign, body, hy, hR⟩ := HY.out (entsOf dd pre) ⟨vk, vc, vn, vv, false⟩ X HX.out.1 (Nat.lt_of_le_of_lt (entsOf_length _ _) HLN.out)
      dsimp only [encE] at hy
      have HR := aside hR
      clear hR
      gi_wp2_with fail
      refine HR.out.mono ?_
      rintro e X3 ⟨kf, ⟨rfl, hj3, kp3⟩ | ⟨rfl, hx3⟩⟩
      · have KF := aside (keepsFrom_up kf (show W.heap.size ≤ V.heap.size from by have := VS.out; omega))
        have KP := aside kp3
        have J3 := aside hj3
        clear kf kp3 hj3 hy
        gi_wp2
        exact ⟨KF.out, KP.out, by rw [hsn.out]; exact J3.out, KP.out.2.1 _ _ HX.out.2.1, KP.out.2.2 _ _ HX.out.2.2⟩
      · have KF := aside (keepsFrom_up kf (show W.heap.size ≤ V.heap.size from by have := VS.out; omega))
        have X3' := aside hx3
        clear kf hx3 hy
        gi_wp2
        exact ⟨KF.out, rfl, by rw [hsn.out]; exact X3'.out⟩
    | true =>
      cases dd with
      | true =>
        obtain ⟨fn, tmps, assign, body, hy, hR⟩ := HY.out (entsOf true pre) ⟨vk, vc, vn, vv, true⟩ X HX.out.1 (Nat.lt_of_le_of_lt (entsOf_length _ _) HLN.out)
        dsimp only [encE] at hy
        have HR := aside hR
        clear hR
        gi_wp2_with fail
        refine HR.out.mono ?_
        rintro e X3 ⟨kf, ⟨rfl, hj3, kp3⟩ | ⟨rfl, hx3⟩⟩
        · have KF := aside (keepsFrom_up kf (show W.heap.size ≤ V.heap.size from by have := VS.out; omega))
          have KP := aside kp3
          have J3 := aside hj3
          clear kf kp3 hj3 hy
          gi_wp2
          exact ⟨KF.out, KP.out, by rw [hsn.out]; exact J3.out, KP.out.2.1 _ _ HX.out.2.1, KP.out.2.2 _ _ HX.out.2.2⟩
        · have KF := aside (keepsFrom_up kf (show W.heap.size ≤ V.heap.size from by have := VS.out; omega))
          have X3' := aside hx3
          clear kf hx3 hy
          gi_wp2
          exact ⟨KF.out, rfl, by rw [hsn.out]; exact X3'.out⟩
      | false =>
        gi_wp2
        exact ⟨KeepsFrom.refl _ _, KpT.refl _, by rw [hsn.out]; simpa using HX.out.1, HX.out.2.1, HX.out.2.2⟩
  case done =>
    rintro D xs X hD rfl ⟨hj, hy, hd⟩ hK
    have FIN := aside (HJ.out.putObj (.deferred none) hj (by have := VS.out; omega) hK rfl)
    clear hj hy hd
    gi_wp2
    refine ⟨by simp, .inl ⟨_, _, rfl, run_takeDeferred hK, ?_⟩⟩
    exact ⟨_, results_none rfl _ _ _, ⟨_, rfl⟩, .inl ⟨_, rfl, FIN.out⟩⟩
  case stop =>
    rintro D c pre X hD hp ⟨rfl, hj⟩ hK
    have FIN := aside (HJx.out.putObj (.deferred none) hj (by have := VS.out; omega) hK rfl)
    clear hj
    gi_wp2
    refine ⟨by simp, .inl ⟨_, _, rfl, run_takeDeferred hK, ?_⟩⟩
    exact ⟨_, results_none rfl _ _ _, ⟨_, rfl⟩, .inr ⟨_, entsOf_prefix hp, FIN.out⟩⟩
end Go.Proofs.YtpbkjffiohfkcaaDoor
namespace Go.Proofs.YtpbkjffiohfkcaaDoor
open Go.RowKit Go.Shelf
set_option linter.unusedVariables false
attribute [local go_sem] Oper.semAt_some
/-- An iterator over the entries es. -/
def SeqE (w : World) (lb : Array Value) (es : List En) : Prop := ∃ N, N ≤ 1000000 ∧ es.length ≤ N ∧ SeqO Tryd.prog 59 lb encE KpT (fun ys => ys = es) (fun q => q <+: es) N w
theorem SeqE.below {w w' : World} {lb : Array Value} {es : List En} (h : SeqE w lb es) (b : Below w.heap.size w w') : SeqE w' lb es := by
  obtain ⟨N, h1, h2, h3⟩ := h
  exact ⟨N, h1, h2, h3.of_below b⟩
/-- What is gone through: what is in the range, dead ones only if they are wanted. -/
def thruL (lo hi : ByteArray) (op dd : Bool) (Ls : List En) : List En := (Ls.filter (inR lo hi op)).filter (fun e => dd || !e.d)
theorem rows_thru {T : Tr En Tl} {Ls : List En} {lo hi : ByteArray} {op : Bool} (hH : Hol T Ls) (h : op = true ∨ kLt hi lo = false) (dd : Bool) : entsOf dd (spanL T (belE lo Ls : Int) (endE hi op Ls : Int)) = thruL lo hi op dd Ls := by
  unfold spanL entsOf thruL
  have h1 := belE_le lo Ls
  have h2 := endE_le hi op Ls
  rw [show (max (belE lo Ls : Int) 0).toNat = belE lo Ls from by omega, show (min (endE hi op Ls : Int) (T.cnt : Int)).toNat = endE hi op Ls from by rw [hH.cnt]; omega, hH.rows, seg_map, seg_range hH.rises h, List.map_map]
  congr 1
  exact List.map_id _
set_option maxHeartbeats 3200000 in
set_option maxRecDepth 100000 in
theorem sthru (lo hi : ByteArray) (op dd : Bool) {Ls : List En} {w : World} {sb g tb : Nat} {nd ck : Int} {T : Tr En Tl} {n : Nat} (h : IsSt w sb g tb nd ck T n) (hH : Hol T Ls) (hl : Ls.length ≤ 1000000) :
    Calls Tryd.prog 44 #[.pointer (some ⟨sb, 0, none⟩), .agg #[.string lo, .string hi, .bool op], .bool dd] w fun r w' => Below w.heap.size w w' ∧ ((Rg.chk ⟨lo, hi, op⟩ ≠ 0 ∧ r = .returned (.tuple #[.nilFunc, .int .i64 (Rg.chk ⟨lo, hi, op⟩)])) ∨ (Rg.chk ⟨lo, hi, op⟩ = 0 ∧ ∃ lb, r = .returned (.tuple #[.func (.func 59) #[] lb, .int .i64 0]) ∧ SeqE w' lb (thruL lo hi op dd Ls))) := by
  have hmf : ∀ (fn : Fn) (first cap : Array Value) (w : World), (Instr.makeFunc fn first cap).run Tryd.prog w = .ok (.func fn first cap) w := fun _ _ _ _ => rfl
  have b0 := bnew w (.cells #[.string lo, .string hi, .bool op] 24)
  have b1 := bnew (w.alloc (.cells #[.string lo, .string hi, .bool op] 24)) (.cells #[.bool dd] 4)
  have B := aside (bthen b0 b1)
  have G0 := aside (blk_on (heap_alloc_new w (.cells #[.string lo, .string hi, .bool op] 24)) b1)
  have g1 := heap_alloc_new (w.alloc (.cells #[.string lo, .string hi, .bool op] 24)) (.cells #[.bool dd] 4)
  simp only [World.size_alloc] at g1
  have G1 := aside g1
  have H := aside (h.below B.out)
  have C1 := aside (fun (W : World) => check_any lo hi op W)
  have CR := aside (fun (W : World) (h : IsSt W sb g tb nd ck T n) => srows lo hi op h hH hl)
  have HH := aside hH
  have HLE := aside hl
  obtain ⟨c, hc⟩ : ∃ c, Rg.chk ⟨lo, hi, op⟩ = c := ⟨_, rfl⟩
  rw [hc] at C1 ⊢
  have HC := aside hc
  clear h hH hl b0 b1 g1 hc
  obtain ⟨q0, q1, q2, -⟩ := tri G0.out
  by_cases h0 : c = 0
  · subst h0
    go_enter Tryd.func44, Tryd.ntmps44
    go_wp2_with fail
    refine (C1.out _).mono ?_
    rintro e w1 ⟨rfl, b1⟩
    have H1 := aside (H.out.below b1)
    have G1' := aside (blk_on G1.out b1)
    have B1 := aside (bthen B.out b1)
    obtain ⟨r0, r1, r2, -⟩ := tri (blk_on G0.out b1)
    clear b1 H G1 G0 B C1 q0 q1 q2
    go_wp2_with fail
    refine (CR.out _ H1.out).mono ?_
    rintro e w2 ⟨rfl, b2⟩
    have H2 := aside (H1.out.below b2)
    have G2 := aside (blk_on G1'.out b2)
    have B2 := aside (bthen B1.out b2)
    obtain ⟨-, -, -, c3, -⟩ := quad H2.out.blk
    clear b2 H1 G1' B1 CR r0 r1 r2
    go_wp2_with fail
    obtain ⟨p, ht, hT⟩ := H2.out.tree
    have HT := aside hT
    have CS := aside (yspan (belE lo Ls : Int) (endE hi op Ls : Int) ht)
    clear ht hT
    refine CS.out.mono ?_
    rintro e w3 ⟨lbS, rfl, hs, b3⟩
    have HS := aside hs
    have B3 := aside b3
    clear hs b3 CS c3
    go_wp2
    go_ret2
    have b4 := bnew w3 (.cells #[.func (.func 71) #[] lbS] 117)
    have hcn := HH.out.cnt
    have hT3 : IsTE w3 p T := HT.out.on (fun _ _ e => blk_on e B3.out)
    have hle := HLE.out
    have hsp : (spanL T (belE lo Ls : Int) (endE hi op Ls : Int)).length ≤ Ls.length := by
      unfold spanL seg
      have := Tr.rows_length T
      simp only [List.length_drop, List.length_take]
      omega
    have hq := thru1 (dd := dd) (hb := w3.heap.size) (db := w.heap.size + 1) (sg := spanL T (belE lo Ls : Int) (endE hi op Ls : Int)) (heap_alloc_new w3 (.cells #[.func (.func 71) #[] lbS] 117)) (blk_on (blk_on G2.out B3.out) b4)
      (SeqO.of_stops fun n => span1 (HS.out.below b4) (hT3.on (fun _ _ e => blk_on e b4)) (by omega) (by omega) (Nat.le_refl _) (fun A B h => h.1))
    rw [rows_thru HH.out (chk_may HC.out) dd] at hq
    refine ⟨bthen (bthen B2.out B3.out) b4, .inr ⟨by simp, _, rfl, (spanL T (belE lo Ls : Int) (endE hi op Ls : Int)).length, by omega, ?_, hq⟩⟩
    rw [← rows_thru HH.out (chk_may HC.out) dd]
    exact entsOf_length _ _
  · have h0' : (c == 0) = false := beq_eq_false_iff_ne.2 h0
    have HN := aside h0
    clear h0
    go_enter Tryd.func44, Tryd.ntmps44
    go_wp2_with fail
    refine (C1.out _).mono ?_
    rintro e w1 ⟨rfl, b1⟩
    have B1 := aside (bthen B.out b1)
    clear b1 H G1 G0 B C1 q0 q1 q2
    go_wp2
    go_ret2
    exact ⟨B1.out, .inl ⟨HN.out, rfl⟩⟩
set_option maxHeartbeats 3200000 in
set_option maxRecDepth 100000 in
theorem sall (lo hi : ByteArray) (op : Bool) {Ls : List En} {w : World} {sb g tb : Nat} {nd ck : Int} {T : Tr En Tl} {n : Nat} (h : IsSt w sb g tb nd ck T n) (hH : Hol T Ls) (hl : Ls.length ≤ 1000000) :
    Calls Tryd.prog 31 #[.pointer (some ⟨sb, 0, none⟩), .agg #[.string lo, .string hi, .bool op]] w fun r w' => Below w.heap.size w w' ∧ ((Rg.chk ⟨lo, hi, op⟩ ≠ 0 ∧ r = .returned (.tuple #[.nilFunc, .int .i64 (Rg.chk ⟨lo, hi, op⟩)])) ∨ (Rg.chk ⟨lo, hi, op⟩ = 0 ∧ ∃ lb, r = .returned (.tuple #[.func (.func 59) #[] lb, .int .i64 0]) ∧ SeqE w' lb (thruL lo hi op true Ls))) := by
  have b0 := bnew w (.cells #[.string lo, .string hi, .bool op] 24)
  have C := aside (sthru lo hi op true (h.below b0) hH hl)
  have B := aside b0
  obtain ⟨q0, q1, q2, -⟩ := tri (heap_alloc_new w (.cells #[.string lo, .string hi, .bool op] 24))
  clear h hH hl b0
  go_enter Tryd.func31, Tryd.ntmps31
  go_wp2_with fail
  refine C.out.mono ?_
  rintro r w1 ⟨b1, ⟨hc, rfl⟩ | ⟨hc, lb, rfl, hs⟩⟩
  · have B1 := aside (bthen B.out b1)
    have HC := aside hc
    clear b1 hc C q0 q1 q2
    go_wp2
    go_ret2
    exact ⟨B1.out, .inl ⟨HC.out, rfl⟩⟩
  · have B1 := aside (bthen B.out b1)
    have HC := aside hc
    have HS := aside hs
    clear b1 hc hs C q0 q1 q2
    go_wp2
    go_ret2
    exact ⟨B1.out, .inr ⟨HC.out, _, rfl, HS.out⟩⟩
theorem qall (lo hi : ByteArray) (op : Bool) {w : World} {sb g tb : Nat} {nd ck : Int} {Ls : List En} (h : Sto w sb g tb nd ck Ls) (hl : Ls.length ≤ 1000000) :
    Calls Tryd.prog 31 #[.pointer (some ⟨sb, 0, none⟩), .agg #[.string lo, .string hi, .bool op]] w fun r w' => Below w.heap.size w w' ∧ ((Rg.chk ⟨lo, hi, op⟩ ≠ 0 ∧ r = .returned (.tuple #[.nilFunc, .int .i64 (Rg.chk ⟨lo, hi, op⟩)])) ∨ (Rg.chk ⟨lo, hi, op⟩ = 0 ∧ ∃ lb, r = .returned (.tuple #[.func (.func 59) #[] lb, .int .i64 0]) ∧ SeqE w' lb (thruL lo hi op true Ls))) := by
  obtain ⟨T, n, h1, h2⟩ := h
  exact sall lo hi op h1 h2 hl
end Go.Proofs.YtpbkjffiohfkcaaDoor
namespace Go.Proofs.YtpbkjffiohfkcaaDoor
open Go.RowKit
set_option linter.unusedVariables false
/-- What a range holds, by the document and by the code. -/
theorem inL_thru {lo hi : ByteArray} {op : Bool} {l : List En} (h : Rg.chk ⟨lo, hi, op⟩ = 0) (hm : MapL l) : inL ⟨lo, hi, op⟩ l = l.filter (inR lo hi op) := by
  unfold inL
  refine List.filter_congr (fun e he => ?_)
  have h1 := (chk_pos (hm.chk e he)).2.1
  unfold Rg.has inR Rg.may
  simp only [h]
  have h2 : decide ((e.k.size : Int) ≤ 16) = true := by simp; omega
  rw [h2]
  rfl
/-- The store's row as a list of entries. -/
theorem DSt.ents {w : World} {B db : Nat} {nd ck : Int} {l : List En} (h : DSt w B db nd ck l) (hm : MapL l) : ∃ a c, w.heap[db]? = some (.cells #[.int .i64 nd, .int .i64 ck, .slice a l.length c] 67 (0, 0)) ∧ EntsIn w a l.length c (nthE l) ∧ l.length ≤ 9223372036854775807 := by
  obtain ⟨v, h1, h2⟩ := h
  obtain ⟨a, c, rfl, -, -, -⟩ := own_slice h2
  have hk : KeysOk l := fun e he => key_small (hm.chk e he)
  rcases h2.2 with ⟨h3, h4⟩ | ⟨g, cap, cur, h3, h4⟩
  · refine ⟨a, c, h1, ?_, by omega⟩
    simp only [Value.slice.injEq] at h3
    obtain ⟨rfl, h6, rfl⟩ := h3
    rw [h4]
    exact ⟨by omega, by unfold maxLen; omega, .inl rfl⟩
  · simp only [Value.slice.injEq] at h3
    obtain ⟨rfl, -, rfl⟩ := h3
    obtain ⟨m1, m2⟩ := row_max h2
    have := ents_of_row h2 hk (o := 0) (m := l.length) (c := c) (by omega) m1 m2 (a := some ⟨g, 0, none⟩) (.inr (by simp))
    simp only [Nat.zero_add] at this
    exact ⟨_, _, h1, this, by unfold maxLen at m2; omega⟩
set_option maxHeartbeats 6400000 in
set_option maxRecDepth 100000 in
theorem rallS (lo hi : ByteArray) (op : Bool) {w : World} {B db : Nat} {nd ck : Int} {l : List En} (h : DSt w B db nd ck l) (hm : MapL l) (hl : l.length ≤ 1000000) :
    Calls Tryd.prog 29 #[.pointer (some ⟨db, 0, none⟩), .agg #[.string lo, .string hi, .bool op]] w fun e w' => Below w.heap.size w w' ∧ ∃ v, e = .returned (.tuple #[v, .int .i64 (Rg.chk ⟨lo, hi, op⟩)]) ∧ w'.ownsRow w.heap.size 54 5 v (outL (Rg.chk ⟨lo, hi, op⟩) (inL ⟨lo, hi, op⟩ l)).length (entCells (outL (Rg.chk ⟨lo, hi, op⟩) (inL ⟨lo, hi, op⟩ l))) := by
  obtain ⟨r, hr⟩ : ∃ r, Rg.chk ⟨lo, hi, op⟩ = r := ⟨_, rfl⟩
  have CR := aside (fun W => checkRef_at hr W)
  obtain ⟨a, ca, hd, hA, hmx0⟩ := h.ents hm
  have HD := aside hd
  have HA := aside hA
  have hmx : (l.length : Int) ≤ 9223372036854775807 := by omega
  have HL := aside hl
  rw [hr]
  have hfl : Hid (firstE (nthE l) l.length = l) := firstE_nth l
  obtain ⟨la, hla⟩ : ∃ la, l.length = la := ⟨_, rfl⟩
  rw [hla] at HD HA hmx HL hfl
  rw [← hfl.out]
  generalize nthE l = A at *
  clear hd hA hmx0 hr hm h hl hla hfl
  have B0 := aside (bnew w (.cells #[.string lo, .string hi, .bool op] 24))
  have K0 := aside (heap_alloc_new w (.cells #[.string lo, .string hi, .bool op] 24))
  by_cases h1 : r = 0
  · subst h1
    rw [outL_ok _ rfl]
    go_enter Tryd.func29, Tryd.ntmps29
    go_wp2_with fail
    refine (CR.out _).mono ?_
    rintro e w2 ⟨rfl, b2⟩
    have K1 := aside (blk_on K0.out b2)
    have B1 := aside (bthen B0.out b2)
    obtain ⟨rb, hrb⟩ : ∃ rb, w.heap.size = rb := ⟨_, rfl⟩
    rw [hrb] at K1 ⊢
    clear b2 CR hrb K0 B0
    obtain ⟨d0, d1, d2⟩ := box3r (blk_on HD.out B1.out)
    go_wp2
    clear d0 d1 d2
    go_loopw [7, 20] (fun v i wr => ∃ j : Nat, i = .int .i64 (j : Int) ∧ j ≤ la ∧ wr.ownsRow w.heap.size 54 5 v (inL ⟨lo, hi, op⟩ (firstE A j)).length (entCells (inL ⟨lo, hi, op⟩ (firstE A j))) ∧ wr.heap[rb]? = some (.cells #[.string lo, .string hi, .bool op] 24 (0, 0)) ∧ Below w.heap.size w wr) (fun _ i _ => la - (intOf i).toNat)
    case atStart => exact ⟨0, rfl, Nat.zero_le _, World.ownsRow_nil _ _ _ _, K1.out, B1.out⟩
    case round =>
      obtain ⟨j, rfl, hj, hO, hK, hB⟩ := hrel
      have HO := aside hO
      have HK := aside hK
      have HB := aside hB
      have hj0 : (0 : Int) ≤ (j : Int) := by omega
      obtain ⟨r0, r1, r2⟩ := box3r hK
      have hrl : rb < wr.heap.size := (Array.getElem?_eq_some_iff.1 hK).1
      clear hO hK hB
      by_cases hlt : (j : Int) < (la : Int)
      · have eA := HA.out.keep HB.out
        rcases eA.2.2 with h0 | ⟨ba, oa, rfl, hba, -⟩
        · omega
        obtain ⟨x, hx⟩ : ∃ x, A j = x := ⟨_, rfl⟩
        obtain ⟨c0, c1, c2, c3, c4⟩ := ents_five eA (by omega) hx
        have HSN := aside (inL_snoc ⟨lo, hi, op⟩ (firstE A j) x)
        rw [← hx, ← firstE_succ, hx] at HSN
        have HLN := aside (show (inL ⟨lo, hi, op⟩ (firstE A j)).length ≤ la from by have h1 := inL_len ⟨lo, hi, op⟩ (firstE A j); rw [firstE_len] at h1; omega)
        have BN := aside (bnew wr (.cells #[.string x.k, .int .i64 x.c, .int .i64 x.n, .string x.v, .bool x.d] 54))
        have KX := aside (heap_alloc_new wr (.cells #[.string x.k, .int .i64 x.c, .int .i64 x.n, .string x.v, .bool x.d] 54))
        clear eA hx
        cases hh : Rg.has ⟨lo, hi, op⟩ x.k
        · have CH := aside (fun W => holdsRef_at hh W)
          rw [hh] at HSN
          simp only [Bool.false_eq_true, if_false, List.append_nil] at HSN
          clear hh
          go_wp2_with fail
          refine (CH.out _).mono ?_
          rintro e w3 ⟨rfl, b3⟩
          have B3 := aside (bthen BN.out b3)
          clear b3 CH c0 c1 c2 c3 c4 r0 r1 r2
          go_wp2
          go_roundw
          case rel => exact ⟨j + 1, by go_num, by omega, by rw [HSN.out]; exact own_on HO.out B3.out, blk_on HK.out B3.out, bthen HB.out B3.out⟩
          case measure => simp [intOf]; omega
        · have CH := aside (fun W => holdsRef_at hh W)
          rw [hh] at HSN
          simp only [if_true] at HSN
          clear hh
          go_wp2_with fail
          refine (CH.out _).mono ?_
          rintro e w3 ⟨rfl, b3⟩
          have B3 := aside (bthen BN.out b3)
          replace KX := aside (blk_on KX.out b3)
          replace HO := aside (own_on HO.out B3.out)
          replace HK := aside (blk_on HK.out B3.out)
          replace HB := aside (bthen HB.out B3.out)
          obtain ⟨⟨x0, x1, x2, x3, x4⟩, -⟩ := box5 KX.out
          clear b3 CH c0 c1 c2 c3 c4 r0 r1 r2
          go_wp2_with (at_builtin; go_loud (refine wpList_plain rfl fun K hK => op_append_ent _ _ rfl w.heap.size _ _ _ (by rfl) (HO.out.alloc _) w3.heap.size 1 x (by rfl) (heap_alloc_new w3 _) (by have := HLN.out; have := HL.out; omega) (by have := HB.out.size; simp; omega) ?_); intro g4 cap4 w4 own4 gr4; refine hK _ _ ?_; refine Hid.out ?_)
          refine aside ?_
          have B4 := aside ((HB.out.alloc HB.out.size (.cells #[.string x.k, .int .i64 x.c, .int .i64 x.n, .string x.v, .bool x.d] 54)).grown gr4 (by have := HB.out.size; simp; omega) (fun k e => (HO.out.lt k e).1))
          have O4 := aside own4
          have K4 := aside (show w4.heap[rb]? = some (.cells #[.string lo, .string hi, .bool op] 24 (0, 0)) from by
            rw [gr4.block rb (by have := (Array.getElem?_eq_some_iff.1 HK.out).1; simp; omega) (fun e => by
              obtain ⟨-, cs, h3⟩ := row_blkM HO.out e.symm
              rw [HK.out] at h3; simp at h3)]
            exact blk_on HK.out (bnew _ _))
          clear own4 gr4 x0 x1 x2 x3 x4
          go_wp2
          go_roundw
          case rel => exact ⟨j + 1, by go_num, by omega, by rw [HSN.out, List.length_append]; exact O4.out, K4.out, B4.out⟩
          case measure => simp [intOf]; omega
      · have hjl : j = la := by omega
        subst hjl
        go_wp2
        go_ret2
        exact ⟨HB.out, _, rfl, HO.out⟩
  · have h1' : (r == 0) = false := by simpa using h1
    have HR := aside h1
    clear h1
    go_enter Tryd.func29, Tryd.ntmps29
    go_wp2_with fail
    refine (CR.out _).mono ?_
    rintro e w2 ⟨rfl, b2⟩
    have B1 := aside (bthen B0.out b2)
    clear b2 CR
    go_wp2
    go_ret2
    rw [outL_bad _ HR.out]
    exact ⟨B1.out, _, rfl, World.ownsRow_nil _ _ _ _⟩
end Go.Proofs.YtpbkjffiohfkcaaDoor
namespace Go.Proofs.YtpbkjffiohfkcaaDoor
open Go.RowKit
set_option linter.unusedVariables false
/-- Two names. -/
def Nm.cmp (a l n b m k : Int) : Int := if b < a then 1 else if a < b then -1 else Vs.cmp l n m k
/-- Whether a name may be. -/
def Nm.chk (a l n : Int) : Int := if a < 0 ∨ 8 ≤ a then 110 else if l < 1 ∨ 1048576 < l ∨ n < 1 ∨ 1048576 < n then 111 else 0
theorem Nm.lt {a b : Int} (h : a < b) (l n m k : Int) : Nm.cmp a l n b m k = -1 := by unfold Nm.cmp; rw [if_neg (by omega), if_pos h]
theorem Nm.gt {a b : Int} (h : b < a) (l n m k : Int) : Nm.cmp a l n b m k = 1 := by unfold Nm.cmp; rw [if_pos h]
theorem Nm.eq (a l n m k : Int) : Nm.cmp a l n a m k = Vs.cmp l n m k := by unfold Nm.cmp; rw [if_neg (by omega), if_neg (by omega)]
theorem Nm.three (a l n b m k : Int) : Nm.cmp a l n b m k = 1 ∧ (b < a ∨ (a = b ∧ (m < l ∨ (l = m ∧ k < n)))) ∨ Nm.cmp a l n b m k = 0 ∧ a = b ∧ l = m ∧ n = k ∨ Nm.cmp a l n b m k = -1 ∧ (a < b ∨ (a = b ∧ (l < m ∨ (l = m ∧ n < k)))) := by
  rcases Int.lt_trichotomy a b with h | h | h
  · exact .inr (.inr ⟨Nm.lt h _ _ _ _, .inl h⟩)
  · subst h
    rw [Nm.eq]
    rcases cmp_three l n m k with h | h | h
    · exact .inl ⟨h.1, .inr ⟨rfl, h.2⟩⟩
    · exact .inr (.inl ⟨h.1, rfl, h.2.1, h.2.2⟩)
    · exact .inr (.inr ⟨h.1, .inr ⟨rfl, h.2⟩⟩)
  · exact .inl ⟨Nm.gt h _ _ _ _, .inl h⟩
end Go.Proofs.YtpbkjffiohfkcaaDoor
namespace Go.Proofs.YtpbkjffiohfkcaaDoor
open Go.RowKit
set_option linter.unusedVariables false
/-- A part: its kind, range, tally, and its entries with the slice that holds them. -/
structure Pm where
  kind : Int
  lo : ByteArray
  hi : ByteArray
  op : Bool
  cnt : Int
  s0 : Int
  s1 : Int
  ea : Option Addr
  el : Nat
  ec : Nat
  T : Nat → En
def Pm.rg (p : Pm) : Rg := ⟨p.lo, p.hi, p.op⟩
/-- Whether it has no fields but its own. -/
def Pm.alone (p : Pm) : Bool := if p.kind = 1 then p.el == 0 else if p.kind = 2 ∨ p.kind = 3 then p.cnt == 0 && (p.s0 == 0 && p.s1 == 0) else false
/-- What is wrong with a tally. -/
def tlChk (c a b : Int) : Int := if c < 0 ∨ 256 < c then 117 else if c = 0 ∧ ¬ (a = 0 ∧ b = 0) then 117 else 0
/-- What is wrong with the entry i of a part. -/
def itAt (r : Rg) (T : Nat → En) (i : Nat) : Int := if (T i).chk ≠ 0 then (T i).chk else if r.has (T i).k = false ∨ (0 < i ∧ kLt (T (i - 1)).k (T i).k = false) then 116 else 0
/-- What is wrong first with n entries of a part. -/
def itN (r : Rg) (T : Nat → En) : Nat → Int
  | 0 => 0
  | n + 1 => if itN r T n ≠ 0 then itN r T n else itAt r T n
/-- What is wrong with the entries of a part. -/
def Pm.its (p : Pm) : Int := if itN p.rg p.T p.el ≠ 0 then itN p.rg p.T p.el else if p.kind = 3 ∧ p.el = 0 then 116 else 0
/-- What is wrong with a part, behind a range. -/
def Pm.chk (p : Pm) (hi : ByteArray) (op : Bool) : Int :=
  if p.alone = false then 114 else if p.rg.chk ≠ 0 then p.rg.chk else if p.rg.emp = true ∨ op = true ∨ kLt p.lo hi = true then 115 else if p.kind = 1 then tlChk p.cnt p.s0 p.s1 else p.its
/-- How many entries n parts have. -/
def totE (P : Nat → Pm) : Nat → Nat
  | 0 => 0
  | n + 1 => totE P n + (P n).el
section
variable {r : Rg} {T : Nat → En}
end
section
variable {P : Nat → Pm}
end
end Go.Proofs.YtpbkjffiohfkcaaDoor
namespace Go.Proofs.YtpbkjffiohfkcaaDoor
open Go.RowKit
set_option linter.unusedVariables false
/-- The eight cells of a part. -/
def PmAt (w : World) (b off : Nat) (p : Pm) : Prop := w.cell? ⟨b, off, none⟩ = some (.int .i64 p.kind) ∧ w.cell? ⟨b, off + 1, none⟩ = some (.string p.lo) ∧ w.cell? ⟨b, off + 2, none⟩ = some (.string p.hi) ∧ w.cell? ⟨b, off + 3, none⟩ = some (.bool p.op) ∧ w.cell? ⟨b, off + 4, none⟩ = some (.int .i64 p.cnt) ∧ w.cell? ⟨b, off + 5, none⟩ = some (.int .u64 p.s0) ∧ w.cell? ⟨b, off + 6, none⟩ = some (.int .u64 p.s1) ∧ w.cell? ⟨b, off + 7, none⟩ = some (.slice p.ea p.el p.ec)
theorem PmAt.keep {w w' : World} {b off : Nat} {p : Pm} (h : PmAt w b off p) (k : Below w.heap.size w w') : PmAt w' b off p := by
  obtain ⟨c0, c1, c2, c3, c4, c5, c6, c7⟩ := h
  exact ⟨cell_in c0 k, cell_in c1 k, cell_in c2 k, cell_in c3 k, cell_in c4 k, cell_in c5 k, cell_in c6 k, cell_in c7 k⟩
/-- Its entries are there. -/
def Pm.In (w : World) (p : Pm) : Prop := EntsIn w p.ea p.el p.ec p.T
theorem Pm.In.keep {w w' : World} {p : Pm} (h : p.In w) (k : Below w.heap.size w w') : p.In w' := EntsIn.keep h k
/-- A list of parts in memory. -/
def PartsIn (w : World) (a : Option Addr) (len cap : Nat) (P : Nat → Pm) : Prop :=
  len ≤ cap ∧ cap ≤ maxLen ∧ (len = 0 ∨ ∃ b off, a = some ⟨b, off, none⟩ ∧ b < w.heap.size ∧ ∀ i, i < len → PmAt w b (off + i * 8) (P i) ∧ (P i).In w)
theorem PartsIn.keep {w w' : World} {a : Option Addr} {len cap : Nat} {P : Nat → Pm} (h : PartsIn w a len cap P) (k : Below w.heap.size w w') : PartsIn w' a len cap P := by
  obtain ⟨h1, h2, h3⟩ := h
  refine ⟨h1, h2, ?_⟩
  rcases h3 with h3 | ⟨bb, off, rfl, hb, hc⟩
  · exact .inl h3
  · exact .inr ⟨bb, off, rfl, by have := k.size; omega, fun i hi => ⟨(hc i hi).1.keep k, (hc i hi).2.keep k⟩⟩
theorem oct {w : World} {i : Nat} {p : Pm} (h : w.heap[i]? = some (.cells #[.int .i64 p.kind, .string p.lo, .string p.hi, .bool p.op, .int .i64 p.cnt, .int .u64 p.s0, .int .u64 p.s1, .slice p.ea p.el p.ec] 34 (0, 0))) : w.cell? ⟨i, 0, none⟩ = some (.int .i64 p.kind) ∧ w.cell? ⟨i, 1, none⟩ = some (.string p.lo) ∧ w.cell? ⟨i, 2, none⟩ = some (.string p.hi) ∧ w.cell? ⟨i, 3, none⟩ = some (.bool p.op) ∧ w.cell? ⟨i, 4, none⟩ = some (.int .i64 p.cnt) ∧ w.cell? ⟨i, 5, none⟩ = some (.int .u64 p.s0) ∧ w.cell? ⟨i, 6, none⟩ = some (.int .u64 p.s1) ∧ w.cell? ⟨i, 7, none⟩ = some (.slice p.ea p.el p.ec) :=
  ⟨by simp [World.cell?, h], by simp [World.cell?, h], by simp [World.cell?, h], by simp [World.cell?, h], by simp [World.cell?, h], by simp [World.cell?, h], by simp [World.cell?, h], by simp [World.cell?, h]⟩
end Go.Proofs.YtpbkjffiohfkcaaDoor
namespace Go.Proofs.YtpbkjffiohfkcaaDoor
open Go.RowKit
set_option linter.unusedVariables false
end Go.Proofs.YtpbkjffiohfkcaaDoor
namespace Go.Proofs.YtpbkjffiohfkcaaDoor
open Go.RowKit
set_option linter.unusedVariables false
/-- The cells of a block of eight. -/
theorem oct8 {w : World} {i : Nat} {v0 v1 v2 v3 v4 v5 v6 v7 : Value} {t : TypeId} (h : w.heap[i]? = some (.cells #[v0, v1, v2, v3, v4, v5, v6, v7] t (0, 0))) : w.cell? ⟨i, 0, none⟩ = some v0 ∧ w.cell? ⟨i, 1, none⟩ = some v1 ∧ w.cell? ⟨i, 2, none⟩ = some v2 ∧ w.cell? ⟨i, 3, none⟩ = some v3 ∧ w.cell? ⟨i, 4, none⟩ = some v4 ∧ w.cell? ⟨i, 5, none⟩ = some v5 ∧ w.cell? ⟨i, 6, none⟩ = some v6 ∧ w.cell? ⟨i, 7, none⟩ = some v7 :=
  ⟨by simp [World.cell?, h], by simp [World.cell?, h], by simp [World.cell?, h], by simp [World.cell?, h], by simp [World.cell?, h], by simp [World.cell?, h], by simp [World.cell?, h], by simp [World.cell?, h]⟩
end Go.Proofs.YtpbkjffiohfkcaaDoor
namespace Go.Proofs.YtpbkjffiohfkcaaDoor
open Go.RowKit
set_option linter.unusedVariables false
theorem set_in {w : World} {b : Nat} (k : Nat) (u : Value) {cs : Array Value} {t : TypeId} (h : w.heap[b]? = some (.cells cs t (0, 0))) : (w.setCell ⟨b, k, none⟩ u).heap[b]? = some (.cells (cs.setIfInBounds k u) t (0, 0)) := by
  simp only [World.setCell]
  rw [Array.getElem?_modify]
  simp [h]
end Go.Proofs.YtpbkjffiohfkcaaDoor
namespace Go.Proofs.YtpbkjffiohfkcaaDoor
open Go.RowKit
set_option linter.unusedVariables false
theorem rev_ind {P : List En → Prop} (h0 : P []) (hs : ∀ l e, P l → P (l ++ [e])) (l : List En) : P l := by
  have h : ∀ r : List En, P r.reverse := by
    intro r
    induction r with
    | nil => exact h0
    | cons e r ih => rw [List.reverse_cons]; exact hs _ _ ih
  have := h l.reverse
  rwa [List.reverse_reverse] at this
theorem tal_a (l : List En) : (talL l).a = allI f0 l := by
  refine rev_ind (P := fun l => (talL l).a = allI f0 l) ?_ (fun l e ih => ?_) l
  · rw [allI_nil]; rfl
  · rw [talL_append, talL_one, ← tJoin_a, allI_snoc, ih, tof_a]; rfl
theorem tal_b (l : List En) : (talL l).b = allI f1 l := by
  refine rev_ind (P := fun l => (talL l).b = allI f1 l) ?_ (fun l e ih => ?_) l
  · rw [allI_nil]; rfl
  · rw [talL_append, talL_one, ← tJoin_b, allI_snoc, ih, tof_b]; rfl
theorem tal_n (l : List En) (h : l.length ≤ 1000000000) : (talL l).n = (l.length : Int) := by
  have : ∀ l : List En, l.length ≤ 1000000000 → (talL l).n = (l.length : Int) := by
    intro l
    refine rev_ind (P := fun l => l.length ≤ 1000000000 → (talL l).n = (l.length : Int)) (fun _ => rfl) (fun l e ih hl => ?_) l
    rw [List.length_append, List.length_singleton] at hl
    rw [talL_append, talL_one, ← tJoin_n, ih (by omega), tof_n, List.length_append, List.length_singleton, IntKind.wrap_i64]
    omega
  exact this l h
/-- What entries come to, in memory. -/
def tlV (t : Tl) : Value := .agg #[.int .i64 t.n, .int .u64 t.a, .int .u64 t.b]
theorem talT_tl (l : List En) (h : l.length ≤ 1000000000) : talT (nthE l) l.length = tlV (talL l) := by
  unfold talT tlV
  rw [firstE_nth, tal_n l h, tal_a, tal_b]
/-- A row of entries as a list in memory. -/
theorem own_ents {w : World} {B : Nat} {v : Value} {l : List En} (h2 : w.ownsRow B 54 5 v l.length (entCells l)) (hk : KeysOk l) : ∃ a c, v = .slice a l.length c ∧ EntsIn w a l.length c (nthE l) := by
  obtain ⟨a, c, rfl, -, -, -⟩ := own_slice h2
  rcases h2.2 with ⟨h3, h4⟩ | ⟨g, cap, cur, h3, h4⟩
  · refine ⟨a, c, rfl, ?_⟩
    simp only [Value.slice.injEq] at h3
    obtain ⟨rfl, h6, rfl⟩ := h3
    rw [h4]
    exact ⟨by omega, by unfold maxLen; omega, .inl rfl⟩
  · simp only [Value.slice.injEq] at h3
    obtain ⟨rfl, -, rfl⟩ := h3
    obtain ⟨m1, m2⟩ := row_max h2
    have := ents_of_row h2 hk (o := 0) (m := l.length) (c := c) (by omega) m1 m2 (a := some ⟨g, 0, none⟩) (.inr (by simp))
    simp only [Nat.zero_add] at this
    exact ⟨_, _, rfl, this⟩
theorem keys_in {r : Rg} {l : List En} (hm : MapL l) (q : Int) : KeysOk (outL q (inL r l)) := fun e he => by
  unfold outL at he
  split at he
  · exact key_small (hm.chk e ((List.mem_filter.1 he).1))
  · cases he
theorem fold_out {lo hi : ByteArray} {op : Bool} {l : List En} (hm : MapL l) : foldV lo hi op l = talL (outL (Rg.chk ⟨lo, hi, op⟩) (inL ⟨lo, hi, op⟩ l)) := by
  unfold foldV outL
  by_cases h : Rg.chk ⟨lo, hi, op⟩ = 0
  · rw [if_pos h, if_pos h, inL_thru h hm]
  · rw [if_neg h, if_neg h]; rfl
theorem out_len {r : Rg} {l : List En} (q : Int) : (outL q (inL r l)).length ≤ l.length := by
  unfold outL
  split
  · exact inL_len r l
  · simp
/-- A block of another kind is stored over: the store stays. -/
theorem Sto.set {w w' : World} {sb g tb : Nat} {nd ck : Int} {Ls : List En} (h : Sto w sb g tb nd ck Ls) {i : Nat} {cs : Array Value} {U : TypeId} (hi : w.heap[i]? = some (.cells cs U (0, 0))) (h1 : U ≠ 82) (h2 : U ≠ 99) (h3 : U ≠ 96) (h4 : U ≠ 107) (k : Keeps (fun x => x = i) w w') : Sto w' sb g tb nd ck Ls := by
  obtain ⟨T, n, hs, hH⟩ := h
  have hn := hs.not hi h1 h2 h3
  unfold Of at hn
  refine ⟨T, n, ⟨blk_keep hs.blk k (fun e => hn (.inl e.symm)), hs.cnt.keep k (fun b e => by cases e; exact fun e => hn (.inr (.inr e.symm))), hs.tree.keep k (fun e => hn (.inr (.inl e.symm))) (fun j cs' hj e => ?_)⟩, hH⟩
  subst e
  rw [hj] at hi
  simp only [Option.some.injEq, Obj.cells.injEq] at hi
  exact h4 hi.2.1.symm
/-- What is wrong with a range that is to be told of. -/
def prErr (r : Rg) : Int := if r.chk ≠ 0 then r.chk else if r.emp = true then 115 else 0
set_option maxHeartbeats 3200000 in
set_option maxRecDepth 100000 in
theorem rfoldS (lo hi : ByteArray) (op : Bool) {w : World} {B db : Nat} {nd ck : Int} {l : List En} (h : DSt w B db nd ck l) (hm : MapL l) (hl : l.length ≤ 1000000) :
    Calls Tryd.prog 19 #[.pointer (some ⟨db, 0, none⟩), .agg #[.string lo, .string hi, .bool op]] w fun e w' => e = .returned (.tuple #[tlV (foldV lo hi op l), .int .i64 (Rg.chk ⟨lo, hi, op⟩)]) ∧ Below w.heap.size w w' := by
  obtain ⟨q, hq⟩ : ∃ q, Rg.chk ⟨lo, hi, op⟩ = q := ⟨_, rfl⟩
  have CA := aside (fun W (bb : Below w.heap.size w W) => rallS lo hi op (h.below bb) hm hl)
  rw [fold_out hm]
  rw [hq] at CA ⊢
  have HK := aside (keys_in (r := ⟨lo, hi, op⟩) hm q)
  have HL := aside (show (outL q (inL ⟨lo, hi, op⟩ l)).length ≤ 1000000 from Nat.le_trans (out_len q) hl)
  generalize outL q (inL ⟨lo, hi, op⟩ l) = m at *
  obtain ⟨t, ht⟩ : ∃ t, talL m = t := ⟨_, rfl⟩
  have HT := aside ht
  rw [ht]
  clear hq h hm hl ht
  have BX := aside (bthen (bnew w (.cells #[.string lo, .string hi, .bool op] 24)) (bnew _ (.cells #[.int .i64 0, .int .u64 0, .int .u64 0] 32)))
  have KZ := aside (heap_alloc_new (w.alloc (.cells #[.string lo, .string hi, .bool op] 24)) (.cells #[.int .i64 0, .int .u64 0, .int .u64 0] 32))
  rw [World.size_alloc] at KZ
  go_enter Tryd.func19, Tryd.ntmps19
  go_wp2_with fail
  refine (CA.out _ BX.out).mono ?_
  rintro e w1 ⟨b1, v, rfl, ho⟩
  obtain ⟨a, c, rfl, hE⟩ := own_ents ho HK.out
  have B1 := aside (bthen BX.out b1)
  have KZ1 := aside (blk_on KZ.out b1)
  have CT := aside (tallRef_any a m.length c (nthE m) w1 hE)
  rw [talT_tl m (by have := HL.out; omega), HT.out] at CT
  clear b1 ho KZ BX CA hE
  unfold tlV at CT
  go_wp2_with fail
  refine CT.out.mono ?_
  rintro e w2 ⟨rfl, b2⟩
  have B2 := aside (bthen B1.out b2)
  have KZ2 := aside (blk_on KZ1.out b2)
  obtain ⟨fb, hfb⟩ : ∃ fb, w.heap.size = fb := ⟨_, rfl⟩
  rw [hfb] at KZ2 ⊢
  have HLE : w.heap.size ≤ fb + 1 := by omega
  clear b2 CT KZ1 B1
  obtain ⟨a0, a1, a2, hkz⟩ : ∃ a0 a1 a2 : Value, w2.heap[fb + 1]? = some (Obj.cells #[a0, a1, a2] 32 (0, 0)) := ⟨_, _, _, KZ2.out⟩
  clear KZ2
  have KZ2 := aside hkz
  clear hkz
  obtain ⟨z0, z1, z2⟩ := box3r KZ2.out
  have y0 := frozen_of_row _ _ 0 _ _ KZ2.out
  have y1 := frozen_of_row _ _ 1 _ _ KZ2.out
  have y2 := frozen_of_row _ _ 2 _ _ KZ2.out
  have KR := (set_in 2 (.int .u64 t.b) (set_in 1 (.int .u64 t.a) (set_in 0 (.int .i64 t.n) KZ2.out)))
  simp only [List.setIfInBounds_toArray, List.set_cons_zero, List.set_cons_succ] at KR
  have HKR := aside KR
  clear KR
  have KF := aside ((((Keeps.refl (fun x => x = fb + 1) w2).setCell (p := ⟨fb + 1, 0, none⟩) (fun _ => rfl) (.int .i64 t.n)).setCell (p := ⟨fb + 1, 1, none⟩) (fun _ => rfl) (.int .u64 t.a)).setCell (p := ⟨fb + 1, 2, none⟩) (fun _ => rfl) (.int .u64 t.b))
  have BF := aside ((((B2.out.setCell (p := ⟨fb + 1, 0, none⟩) HLE (.int .i64 t.n)).setCell (p := ⟨fb + 1, 1, none⟩) HLE (.int .u64 t.a)).setCell (p := ⟨fb + 1, 2, none⟩) HLE (.int .u64 t.b)))
  go_wp2
  obtain ⟨r0, r1, r2⟩ := box3r HKR.out
  exact bodyPost_ret (v := .tuple #[.agg #[.int .i64 t.n, .int .u64 t.a, .int .u64 t.b], .int .i64 q]) (by simp [results, Tryd.results19, go_sem, r0, r1, r2]) rfl ⟨rfl, BF.out⟩
end Go.Proofs.YtpbkjffiohfkcaaDoor
namespace Go.Proofs.YtpbkjffiohfkcaaDoor
open Go.RowKit
set_option linter.unusedVariables false
/-- The part that Print tells. -/
def prV (lo hi : ByteArray) (op : Bool) (t : Tl) (q : Int) : Value := if q = 0 then .agg #[.int .i64 1, .string lo, .string hi, .bool op, .int .i64 t.n, .int .u64 t.a, .int .u64 t.b, .slice none 0 0] else .agg #[.int .i64 0, .string ⟨#[]⟩, .string ⟨#[]⟩, .bool false, .int .i64 0, .int .u64 0, .int .u64 0, .slice none 0 0]
set_option maxHeartbeats 3200000 in
set_option maxRecDepth 100000 in
theorem printOf_any (lo hi : ByteArray) (op : Bool) {w : World} {sb g tb : Nat} {nd ck : Int} {Ls : List En} (h : Sto w sb g tb nd ck Ls) (L : Lanes w) (hl : Ls.length ≤ 1000000) :
    Calls Tryd.prog 17 #[.pointer (some ⟨sb, 0, none⟩), .agg #[.string lo, .string hi, .bool op]] w fun e w' => e = .returned (.agg #[.int .i64 1, .string lo, .string hi, .bool op, .int .i64 (foldV lo hi op Ls).n, .int .u64 (foldV lo hi op Ls).a, .int .u64 (foldV lo hi op Ls).b, .slice none 0 0]) ∧ Sto w' sb g tb nd ck Ls ∧ Keeps (Of sb g tb) w w' ∧ Lanes w' := by
  have BX := aside (bthen (bnew w (.cells #[.string lo, .string hi, .bool op] 24)) (bnew _ (.cells #[.int .i64 0, .string ⟨#[]⟩, .string ⟨#[]⟩, .bool false, .int .i64 0, .int .u64 0, .int .u64 0, .slice none 0 0] 34)))
  have KR0 := aside (blk_on (heap_alloc_new w (.cells #[.string lo, .string hi, .bool op] 24)) (bnew _ (.cells #[.int .i64 0, .string ⟨#[]⟩, .string ⟨#[]⟩, .bool false, .int .i64 0, .int .u64 0, .int .u64 0, .slice none 0 0] 34)))
  have KZ := aside (heap_alloc_new (w.alloc (.cells #[.string lo, .string hi, .bool op] 24)) (.cells #[.int .i64 0, .string ⟨#[]⟩, .string ⟨#[]⟩, .bool false, .int .i64 0, .int .u64 0, .int .u64 0, .slice none 0 0] 34))
  rw [World.size_alloc] at KZ
  have CF := aside (qfold lo hi op (h.below BX.out) (L.keep BX.out) hl)
  have HX := aside (h.below BX.out)
  have HLT := aside h.lt
  generalize foldV lo hi op Ls = t at *
  clear h L hl
  go_enter Tryd.func17, Tryd.ntmps17
  go_wp2_with fail
  refine CF.out.mono ?_
  rintro e w1 ⟨rfl, s1, k1, l1⟩
  have HN1 := HX.out.not KR0.out (by decide) (by decide) (by decide)
  have HN2 := HX.out.not KZ.out (by decide) (by decide) (by decide)
  have KR1 := aside (blk_keep KR0.out k1 HN1)
  have KZ1 := aside (blk_keep KZ.out k1 HN2)
  have S1 := aside s1
  have L1 := aside l1
  have K1 := aside ((Keeps.of_below BX.out _).trans k1)
  clear s1 l1 k1 HN1 HN2 KR0 KZ CF HX BX
  obtain ⟨fb, hfb⟩ : ∃ fb, w.heap.size = fb := ⟨_, rfl⟩
  rw [hfb] at KR1 KZ1 ⊢
  obtain ⟨r0, r1, r2⟩ := box3r KR1.out
  go_upto_region 2 with fail
  clear r0 r1 r2
  have HNL : ¬ fb + 1 < w.heap.size := by omega
  have KZ2 := aside (blk_on KZ1.out (bnew w1 (.cells #[.int .i64 t.n, .int .u64 t.a, .int .u64 t.b] 32)))
  have KR2 := aside (blk_on KR1.out (bnew w1 (.cells #[.int .i64 t.n, .int .u64 t.a, .int .u64 t.b] 32)))
  have KT2 := aside (heap_alloc_new w1 (.cells #[.int .i64 t.n, .int .u64 t.a, .int .u64 t.b] 32))
  have KA := aside (K1.out.alloc (.cells #[.int .i64 t.n, .int .u64 t.a, .int .u64 t.b] 32))
  have SA := aside (S1.out.below (bnew w1 (.cells #[.int .i64 t.n, .int .u64 t.a, .int .u64 t.b] 32)))
  have LA := aside (L1.out.keep (bnew w1 (.cells #[.int .i64 t.n, .int .u64 t.a, .int .u64 t.b] 32)))
  have HL0 : ¬ 0 = fb + 1 := by omega
  clear KZ1 K1 S1 L1 KR1
  generalize w1.alloc (.cells #[.int .i64 t.n, .int .u64 t.a, .int .u64 t.b] 32) = W2 at *
  generalize w1.heap.size = tb2 at *
  obtain ⟨r0, r1, r2⟩ := box3r KR2.out
  obtain ⟨p0, p1, p2⟩ := box3r KT2.out
  obtain ⟨a0, a1, a2, a3, a4, a5, a6, a7, hkz⟩ : ∃ a0 a1 a2 a3 a4 a5 a6 a7 : Value, W2.heap[fb + 1]? = some (Obj.cells #[a0, a1, a2, a3, a4, a5, a6, a7] 34 (0, 0)) := ⟨_, _, _, _, _, _, _, _, KZ2.out⟩
  clear KZ2
  have KZ2 := aside hkz
  clear hkz
  obtain ⟨z0, z1, z2, z3, z4, z5, z6, z7⟩ := oct8 KZ2.out
  have y0 := frozen_of_row _ _ 0 _ _ KZ2.out
  have y1 := frozen_of_row _ _ 1 _ _ KZ2.out
  have y2 := frozen_of_row _ _ 2 _ _ KZ2.out
  have y3 := frozen_of_row _ _ 3 _ _ KZ2.out
  have y4 := frozen_of_row _ _ 4 _ _ KZ2.out
  have y5 := frozen_of_row _ _ 5 _ _ KZ2.out
  have y6 := frozen_of_row _ _ 6 _ _ KZ2.out
  have y7 := frozen_of_row _ _ 7 _ _ KZ2.out
  have KR := (set_in 7 (.slice none 0 0) (set_in 6 (.int .u64 t.b) (set_in 5 (.int .u64 t.a) (set_in 4 (.int .i64 t.n) (set_in 3 (.bool op) (set_in 2 (.string hi) (set_in 1 (.string lo) (set_in 0 (.int .i64 1) KZ2.out))))))))
  simp only [List.setIfInBounds_toArray, List.set_cons_zero, List.set_cons_succ] at KR
  have HKR := aside KR
  clear KR
  have KF := aside (((((((((Keeps.refl (fun x => x = fb + 1) W2).setCell (p := ⟨fb + 1, 0, none⟩) (fun _ => rfl) (.int .i64 1)).setCell (p := ⟨fb + 1, 1, none⟩) (fun _ => rfl) (.string lo)).setCell (p := ⟨fb + 1, 2, none⟩) (fun _ => rfl) (.string hi)).setCell (p := ⟨fb + 1, 3, none⟩) (fun _ => rfl) (.bool op)).setCell (p := ⟨fb + 1, 4, none⟩) (fun _ => rfl) (.int .i64 t.n)).setCell (p := ⟨fb + 1, 5, none⟩) (fun _ => rfl) (.int .u64 t.a)).setCell (p := ⟨fb + 1, 6, none⟩) (fun _ => rfl) (.int .u64 t.b)).setCell (p := ⟨fb + 1, 7, none⟩) (fun _ => rfl) (.slice none 0 0))
  have KW := aside ((((((((KA.out.setCell (p := ⟨fb + 1, 0, none⟩) (fun hh => absurd hh HNL) (.int .i64 1)).setCell (p := ⟨fb + 1, 1, none⟩) (fun hh => absurd hh HNL) (.string lo)).setCell (p := ⟨fb + 1, 2, none⟩) (fun hh => absurd hh HNL) (.string hi)).setCell (p := ⟨fb + 1, 3, none⟩) (fun hh => absurd hh HNL) (.bool op)).setCell (p := ⟨fb + 1, 4, none⟩) (fun hh => absurd hh HNL) (.int .i64 t.n)).setCell (p := ⟨fb + 1, 5, none⟩) (fun hh => absurd hh HNL) (.int .u64 t.a)).setCell (p := ⟨fb + 1, 6, none⟩) (fun hh => absurd hh HNL) (.int .u64 t.b)).setCell (p := ⟨fb + 1, 7, none⟩) (fun hh => absurd hh HNL) (.slice none 0 0))
  have SF := aside (SA.out.set KZ2.out (by decide) (by decide) (by decide) (by decide) KF.out)
  have LF := aside (LA.out.keeps KF.out (fun e => HL0 e))
  go_wp2
  clear r0 r1 r2 p0 p1 p2
  obtain ⟨r0, r1, r2, r3, r4, r5, r6, r7⟩ := oct8 HKR.out
  exact bodyPost_ret (v := .agg #[.int .i64 1, .string lo, .string hi, .bool op, .int .i64 t.n, .int .u64 t.a, .int .u64 t.b, .slice none 0 0]) (by simp [results, Tryd.results17, go_sem, r0, r1, r2, r3, r4, r5, r6, r7]) rfl ⟨rfl, SF.out, KW.out, LF.out⟩
end Go.Proofs.YtpbkjffiohfkcaaDoor
namespace Go.Proofs.YtpbkjffiohfkcaaDoor
open Go.RowKit
set_option linter.unusedVariables false
set_option maxHeartbeats 6400000 in
set_option maxRecDepth 100000 in
theorem print_any (lo hi : ByteArray) (op : Bool) {w : World} {sb g tb : Nat} {nd ck : Int} {Ls : List En} (h : Sto w sb g tb nd ck Ls) (L : Lanes w) (hl : Ls.length ≤ 1000000) :
    Calls Tryd.prog 8 #[.pointer (some ⟨sb, 0, none⟩), .agg #[.string lo, .string hi, .bool op]] w fun e w' => e = .returned (.tuple #[prV lo hi op (foldV lo hi op Ls) (prErr ⟨lo, hi, op⟩), .int .i64 (prErr ⟨lo, hi, op⟩)]) ∧ Sto w' sb g tb nd ck Ls ∧ Keeps (Of sb g tb) w w' ∧ Lanes w' := by
  obtain ⟨c, hc⟩ : ∃ c, Rg.chk ⟨lo, hi, op⟩ = c := ⟨_, rfl⟩
  obtain ⟨m, hm⟩ : ∃ m, Rg.emp ⟨lo, hi, op⟩ = m := ⟨_, rfl⟩
  have HP := aside (show prErr ⟨lo, hi, op⟩ = if c ≠ 0 then c else if m = true then 115 else 0 by unfold prErr; rw [hc, hm])
  have CC := aside (fun W => check_at hc W)
  have CE := aside (fun W => empty_any lo hi op W)
  rw [hm] at CE
  have BX := aside (bthen (bnew w (.cells #[.string lo, .string hi, .bool op] 24)) (bnew _ (.cells #[.int .i64 0, .string ⟨#[]⟩, .string ⟨#[]⟩, .bool false, .int .i64 0, .int .u64 0, .int .u64 0, .slice none 0 0] 34)))
  have KR0 := aside (blk_on (heap_alloc_new w (.cells #[.string lo, .string hi, .bool op] 24)) (bnew _ (.cells #[.int .i64 0, .string ⟨#[]⟩, .string ⟨#[]⟩, .bool false, .int .i64 0, .int .u64 0, .int .u64 0, .slice none 0 0] 34)))
  have KZ := aside (heap_alloc_new (w.alloc (.cells #[.string lo, .string hi, .bool op] 24)) (.cells #[.int .i64 0, .string ⟨#[]⟩, .string ⟨#[]⟩, .bool false, .int .i64 0, .int .u64 0, .int .u64 0, .slice none 0 0] 34))
  rw [World.size_alloc] at KZ
  have CP := aside (fun W (hs : Sto W sb g tb nd ck Ls) (hL : Lanes W) => printOf_any lo hi op hs hL hl)
  have H := aside h
  have LL := aside L
  generalize foldV lo hi op Ls = t at *
  clear h L hl hc hm
  by_cases h0 : c = 0
  · subst h0
    cases m with
    | true =>
      rw [show prErr ⟨lo, hi, op⟩ = 115 from by rw [HP.out]; simp, show prV lo hi op t 115 = .agg #[.int .i64 0, .string ⟨#[]⟩, .string ⟨#[]⟩, .bool false, .int .i64 0, .int .u64 0, .int .u64 0, .slice none 0 0] from by unfold prV; rw [if_neg (by decide)]]
      go_enter Tryd.func8, Tryd.ntmps8
      go_wp2_with fail
      refine (CC.out _).mono ?_
      rintro e w1 ⟨rfl, b1⟩
      have B1 := aside (bthen BX.out b1)
      have KR1 := aside (blk_on KR0.out b1)
      have KZ1 := aside (blk_on KZ.out b1)
      clear b1 KR0 KZ BX
      obtain ⟨fb, hfb⟩ : ∃ fb, w.heap.size = fb := ⟨_, rfl⟩
      rw [hfb] at KR1 KZ1 ⊢
      have HNL : ¬ fb + 1 < w.heap.size := by omega
      have HL0 : ¬ 0 = fb + 1 := by omega
      obtain ⟨r0, r1, r2⟩ := box3r KR1.out
      go_wp2_with fail
      refine (CE.out _).mono ?_
      rintro e w2 ⟨rfl, b2⟩
      have B2 := aside (bthen B1.out b2)
      have KR2 := aside (blk_on KR1.out b2)
      have KZ2 := aside (blk_on KZ1.out b2)
      clear b2 KR1 KZ1 B1 r0 r1 r2
      obtain ⟨r0, r1, r2⟩ := box3r KR2.out
      clear CP CE CC
      go_upto_region 5 with fail
      clear r0 r1 r2
      have KA := aside (Keeps.of_below B2.out (Of sb g tb))
      have SA := aside (H.out.below B2.out)
      have LA := aside (LL.out.keep B2.out)
      obtain ⟨a0, a1, a2, a3, a4, a5, a6, a7, hkz⟩ : ∃ a0 a1 a2 a3 a4 a5 a6 a7 : Value, w2.heap[fb + 1]? = some (Obj.cells #[a0, a1, a2, a3, a4, a5, a6, a7] 34 (0, 0)) := ⟨_, _, _, _, _, _, _, _, KZ2.out⟩
      clear KZ2
      have KZ2 := aside hkz
      clear hkz
      obtain ⟨z0, z1, z2, z3, z4, z5, z6, z7⟩ := oct8 KZ2.out
      have y0 := frozen_of_row _ _ 0 _ _ KZ2.out
      have y1 := frozen_of_row _ _ 1 _ _ KZ2.out
      have y2 := frozen_of_row _ _ 2 _ _ KZ2.out
      have y3 := frozen_of_row _ _ 3 _ _ KZ2.out
      have y4 := frozen_of_row _ _ 4 _ _ KZ2.out
      have y5 := frozen_of_row _ _ 5 _ _ KZ2.out
      have y6 := frozen_of_row _ _ 6 _ _ KZ2.out
      have y7 := frozen_of_row _ _ 7 _ _ KZ2.out
      have KR := (set_in 7 (.slice none 0 0) (set_in 6 (.int .u64 0) (set_in 5 (.int .u64 0) (set_in 4 (.int .i64 0) (set_in 3 (.bool false) (set_in 2 (.string ⟨#[]⟩) (set_in 1 (.string ⟨#[]⟩) (set_in 0 (.int .i64 0) KZ2.out))))))))
      simp only [List.setIfInBounds_toArray, List.set_cons_zero, List.set_cons_succ] at KR
      have HKR := aside KR
      clear KR
      have KF := aside (((((((((Keeps.refl (fun x => x = fb + 1) w2).setCell (p := ⟨fb + 1, 0, none⟩) (fun _ => rfl) (.int .i64 0)).setCell (p := ⟨fb + 1, 1, none⟩) (fun _ => rfl) (.string ⟨#[]⟩)).setCell (p := ⟨fb + 1, 2, none⟩) (fun _ => rfl) (.string ⟨#[]⟩)).setCell (p := ⟨fb + 1, 3, none⟩) (fun _ => rfl) (.bool false)).setCell (p := ⟨fb + 1, 4, none⟩) (fun _ => rfl) (.int .i64 0)).setCell (p := ⟨fb + 1, 5, none⟩) (fun _ => rfl) (.int .u64 0)).setCell (p := ⟨fb + 1, 6, none⟩) (fun _ => rfl) (.int .u64 0)).setCell (p := ⟨fb + 1, 7, none⟩) (fun _ => rfl) (.slice none 0 0))
      have KW := aside ((((((((KA.out.setCell (p := ⟨fb + 1, 0, none⟩) (fun hh => absurd hh HNL) (.int .i64 0)).setCell (p := ⟨fb + 1, 1, none⟩) (fun hh => absurd hh HNL) (.string ⟨#[]⟩)).setCell (p := ⟨fb + 1, 2, none⟩) (fun hh => absurd hh HNL) (.string ⟨#[]⟩)).setCell (p := ⟨fb + 1, 3, none⟩) (fun hh => absurd hh HNL) (.bool false)).setCell (p := ⟨fb + 1, 4, none⟩) (fun hh => absurd hh HNL) (.int .i64 0)).setCell (p := ⟨fb + 1, 5, none⟩) (fun hh => absurd hh HNL) (.int .u64 0)).setCell (p := ⟨fb + 1, 6, none⟩) (fun hh => absurd hh HNL) (.int .u64 0)).setCell (p := ⟨fb + 1, 7, none⟩) (fun hh => absurd hh HNL) (.slice none 0 0))
      have SF := aside (SA.out.set KZ2.out (by decide) (by decide) (by decide) (by decide) KF.out)
      have LF := aside (LA.out.keeps KF.out (fun e => HL0 e))
      go_wp2
      obtain ⟨r0, r1, r2, r3, r4, r5, r6, r7⟩ := oct8 HKR.out
      exact bodyPost_ret (v := .tuple #[.agg #[.int .i64 0, .string ⟨#[]⟩, .string ⟨#[]⟩, .bool false, .int .i64 0, .int .u64 0, .int .u64 0, .slice none 0 0], .int .i64 115]) (by simp [results, Tryd.results8, go_sem, r0, r1, r2, r3, r4, r5, r6, r7]) rfl ⟨rfl, SF.out, KW.out, LF.out⟩
    | false =>
      rw [show prErr ⟨lo, hi, op⟩ = 0 from by rw [HP.out]; simp, show prV lo hi op t 0 = .agg #[.int .i64 1, .string lo, .string hi, .bool op, .int .i64 t.n, .int .u64 t.a, .int .u64 t.b, .slice none 0 0] from by unfold prV; rw [if_pos rfl]]
      go_enter Tryd.func8, Tryd.ntmps8
      go_wp2_with fail
      refine (CC.out _).mono ?_
      rintro e w1 ⟨rfl, b1⟩
      have B1 := aside (bthen BX.out b1)
      have KR1 := aside (blk_on KR0.out b1)
      have KZ1 := aside (blk_on KZ.out b1)
      clear b1 KR0 KZ BX
      obtain ⟨fb, hfb⟩ : ∃ fb, w.heap.size = fb := ⟨_, rfl⟩
      rw [hfb] at KR1 KZ1 ⊢
      have HNL : ¬ fb + 1 < w.heap.size := by omega
      have HL0 : ¬ 0 = fb + 1 := by omega
      obtain ⟨r0, r1, r2⟩ := box3r KR1.out
      go_wp2_with fail
      refine (CE.out _).mono ?_
      rintro e w2 ⟨rfl, b2⟩
      have B2 := aside (bthen B1.out b2)
      have KR2 := aside (blk_on KR1.out b2)
      have KZ2 := aside (blk_on KZ1.out b2)
      clear b2 KR1 KZ1 B1 r0 r1 r2
      obtain ⟨r0, r1, r2⟩ := box3r KR2.out
      clear CE CC
      go_wp2_with fail
      have S2 := H.out.below B2.out
      refine (CP.out _ S2 (LL.out.keep B2.out)).mono ?_
      rintro e w3 ⟨rfl, s3, k3, l3⟩
      have KZ3 := aside (blk_keep KZ2.out k3 (S2.not KZ2.out (by decide) (by decide) (by decide)))
      have SA := aside s3
      have LA := aside l3
      have KA := aside ((Keeps.of_below B2.out _).trans k3)
      clear s3 k3 l3 S2 CP KZ2 KR2 B2 r0 r1 r2
      obtain ⟨a0, a1, a2, a3, a4, a5, a6, a7, hkz⟩ : ∃ a0 a1 a2 a3 a4 a5 a6 a7 : Value, w3.heap[fb + 1]? = some (Obj.cells #[a0, a1, a2, a3, a4, a5, a6, a7] 34 (0, 0)) := ⟨_, _, _, _, _, _, _, _, KZ3.out⟩
      clear KZ3
      have KZ3 := aside hkz
      clear hkz
      obtain ⟨z0, z1, z2, z3, z4, z5, z6, z7⟩ := oct8 KZ3.out
      have y0 := frozen_of_row _ _ 0 _ _ KZ3.out
      have y1 := frozen_of_row _ _ 1 _ _ KZ3.out
      have y2 := frozen_of_row _ _ 2 _ _ KZ3.out
      have y3 := frozen_of_row _ _ 3 _ _ KZ3.out
      have y4 := frozen_of_row _ _ 4 _ _ KZ3.out
      have y5 := frozen_of_row _ _ 5 _ _ KZ3.out
      have y6 := frozen_of_row _ _ 6 _ _ KZ3.out
      have y7 := frozen_of_row _ _ 7 _ _ KZ3.out
      have KR := (set_in 7 (.slice none 0 0) (set_in 6 (.int .u64 t.b) (set_in 5 (.int .u64 t.a) (set_in 4 (.int .i64 t.n) (set_in 3 (.bool op) (set_in 2 (.string hi) (set_in 1 (.string lo) (set_in 0 (.int .i64 1) KZ3.out))))))))
      simp only [List.setIfInBounds_toArray, List.set_cons_zero, List.set_cons_succ] at KR
      have HKR := aside KR
      clear KR
      have KF := aside (((((((((Keeps.refl (fun x => x = fb + 1) w3).setCell (p := ⟨fb + 1, 0, none⟩) (fun _ => rfl) (.int .i64 1)).setCell (p := ⟨fb + 1, 1, none⟩) (fun _ => rfl) (.string lo)).setCell (p := ⟨fb + 1, 2, none⟩) (fun _ => rfl) (.string hi)).setCell (p := ⟨fb + 1, 3, none⟩) (fun _ => rfl) (.bool op)).setCell (p := ⟨fb + 1, 4, none⟩) (fun _ => rfl) (.int .i64 t.n)).setCell (p := ⟨fb + 1, 5, none⟩) (fun _ => rfl) (.int .u64 t.a)).setCell (p := ⟨fb + 1, 6, none⟩) (fun _ => rfl) (.int .u64 t.b)).setCell (p := ⟨fb + 1, 7, none⟩) (fun _ => rfl) (.slice none 0 0))
      have KW := aside ((((((((KA.out.setCell (p := ⟨fb + 1, 0, none⟩) (fun hh => absurd hh HNL) (.int .i64 1)).setCell (p := ⟨fb + 1, 1, none⟩) (fun hh => absurd hh HNL) (.string lo)).setCell (p := ⟨fb + 1, 2, none⟩) (fun hh => absurd hh HNL) (.string hi)).setCell (p := ⟨fb + 1, 3, none⟩) (fun hh => absurd hh HNL) (.bool op)).setCell (p := ⟨fb + 1, 4, none⟩) (fun hh => absurd hh HNL) (.int .i64 t.n)).setCell (p := ⟨fb + 1, 5, none⟩) (fun hh => absurd hh HNL) (.int .u64 t.a)).setCell (p := ⟨fb + 1, 6, none⟩) (fun hh => absurd hh HNL) (.int .u64 t.b)).setCell (p := ⟨fb + 1, 7, none⟩) (fun hh => absurd hh HNL) (.slice none 0 0))
      have SF := aside (SA.out.set KZ3.out (by decide) (by decide) (by decide) (by decide) KF.out)
      have LF := aside (LA.out.keeps KF.out (fun e => HL0 e))
      go_wp2
      obtain ⟨r0, r1, r2, r3, r4, r5, r6, r7⟩ := oct8 HKR.out
      exact bodyPost_ret (v := .tuple #[.agg #[.int .i64 1, .string lo, .string hi, .bool op, .int .i64 t.n, .int .u64 t.a, .int .u64 t.b, .slice none 0 0], .int .i64 0]) (by simp [results, Tryd.results8, go_sem, r0, r1, r2, r3, r4, r5, r6, r7]) rfl ⟨rfl, SF.out, KW.out, LF.out⟩
  · have hb : (c == 0) = false := by simpa using h0
    have HQ := aside h0
    rw [show prErr ⟨lo, hi, op⟩ = c from by rw [HP.out, if_pos h0], show prV lo hi op t c = .agg #[.int .i64 0, .string ⟨#[]⟩, .string ⟨#[]⟩, .bool false, .int .i64 0, .int .u64 0, .int .u64 0, .slice none 0 0] from by unfold prV; rw [if_neg h0]]
    go_enter Tryd.func8, Tryd.ntmps8
    go_wp2_with fail
    refine (CC.out _).mono ?_
    rintro e w1 ⟨rfl, b1⟩
    have B1 := aside (bthen BX.out b1)
    have KR1 := aside (blk_on KR0.out b1)
    have KZ1 := aside (blk_on KZ.out b1)
    clear b1 KR0 KZ BX
    obtain ⟨fb, hfb⟩ : ∃ fb, w.heap.size = fb := ⟨_, rfl⟩
    rw [hfb] at KR1 KZ1 ⊢
    have HNL : ¬ fb + 1 < w.heap.size := by omega
    have HL0 : ¬ 0 = fb + 1 := by omega
    obtain ⟨r0, r1, r2⟩ := box3r KR1.out
    clear CP CE CC
    go_upto_region 3 with fail
    clear r0 r1 r2
    have KA := aside (Keeps.of_below B1.out (Of sb g tb))
    have SA := aside (H.out.below B1.out)
    have LA := aside (LL.out.keep B1.out)
    obtain ⟨a0, a1, a2, a3, a4, a5, a6, a7, hkz⟩ : ∃ a0 a1 a2 a3 a4 a5 a6 a7 : Value, w1.heap[fb + 1]? = some (Obj.cells #[a0, a1, a2, a3, a4, a5, a6, a7] 34 (0, 0)) := ⟨_, _, _, _, _, _, _, _, KZ1.out⟩
    clear KZ1
    have KZ1 := aside hkz
    clear hkz
    obtain ⟨z0, z1, z2, z3, z4, z5, z6, z7⟩ := oct8 KZ1.out
    have y0 := frozen_of_row _ _ 0 _ _ KZ1.out
    have y1 := frozen_of_row _ _ 1 _ _ KZ1.out
    have y2 := frozen_of_row _ _ 2 _ _ KZ1.out
    have y3 := frozen_of_row _ _ 3 _ _ KZ1.out
    have y4 := frozen_of_row _ _ 4 _ _ KZ1.out
    have y5 := frozen_of_row _ _ 5 _ _ KZ1.out
    have y6 := frozen_of_row _ _ 6 _ _ KZ1.out
    have y7 := frozen_of_row _ _ 7 _ _ KZ1.out
    have KR := (set_in 7 (.slice none 0 0) (set_in 6 (.int .u64 0) (set_in 5 (.int .u64 0) (set_in 4 (.int .i64 0) (set_in 3 (.bool false) (set_in 2 (.string ⟨#[]⟩) (set_in 1 (.string ⟨#[]⟩) (set_in 0 (.int .i64 0) KZ1.out))))))))
    simp only [List.setIfInBounds_toArray, List.set_cons_zero, List.set_cons_succ] at KR
    have HKR := aside KR
    clear KR
    have KF := aside (((((((((Keeps.refl (fun x => x = fb + 1) w1).setCell (p := ⟨fb + 1, 0, none⟩) (fun _ => rfl) (.int .i64 0)).setCell (p := ⟨fb + 1, 1, none⟩) (fun _ => rfl) (.string ⟨#[]⟩)).setCell (p := ⟨fb + 1, 2, none⟩) (fun _ => rfl) (.string ⟨#[]⟩)).setCell (p := ⟨fb + 1, 3, none⟩) (fun _ => rfl) (.bool false)).setCell (p := ⟨fb + 1, 4, none⟩) (fun _ => rfl) (.int .i64 0)).setCell (p := ⟨fb + 1, 5, none⟩) (fun _ => rfl) (.int .u64 0)).setCell (p := ⟨fb + 1, 6, none⟩) (fun _ => rfl) (.int .u64 0)).setCell (p := ⟨fb + 1, 7, none⟩) (fun _ => rfl) (.slice none 0 0))
    have KW := aside ((((((((KA.out.setCell (p := ⟨fb + 1, 0, none⟩) (fun hh => absurd hh HNL) (.int .i64 0)).setCell (p := ⟨fb + 1, 1, none⟩) (fun hh => absurd hh HNL) (.string ⟨#[]⟩)).setCell (p := ⟨fb + 1, 2, none⟩) (fun hh => absurd hh HNL) (.string ⟨#[]⟩)).setCell (p := ⟨fb + 1, 3, none⟩) (fun hh => absurd hh HNL) (.bool false)).setCell (p := ⟨fb + 1, 4, none⟩) (fun hh => absurd hh HNL) (.int .i64 0)).setCell (p := ⟨fb + 1, 5, none⟩) (fun hh => absurd hh HNL) (.int .u64 0)).setCell (p := ⟨fb + 1, 6, none⟩) (fun hh => absurd hh HNL) (.int .u64 0)).setCell (p := ⟨fb + 1, 7, none⟩) (fun hh => absurd hh HNL) (.slice none 0 0))
    have SF := aside (SA.out.set KZ1.out (by decide) (by decide) (by decide) (by decide) KF.out)
    have LF := aside (LA.out.keeps KF.out (fun e => HL0 e))
    go_wp2
    obtain ⟨r0, r1, r2, r3, r4, r5, r6, r7⟩ := oct8 HKR.out
    exact bodyPost_ret (v := .tuple #[.agg #[.int .i64 0, .string ⟨#[]⟩, .string ⟨#[]⟩, .bool false, .int .i64 0, .int .u64 0, .int .u64 0, .slice none 0 0], .int .i64 c]) (by simp [results, Tryd.results8, go_sem, r0, r1, r2, r3, r4, r5, r6, r7]) rfl ⟨rfl, SF.out, KW.out, LF.out⟩
end Go.Proofs.YtpbkjffiohfkcaaDoor

/-
  Span: an iterator over the rows that there were.
  Iterators that go over another iterator: what they may ask of the one who ranges over them, and a law for the loop.
  The words of a key and a version, plain, and what both lanes come to.
-/
import Derived.Test.YtlgcdcjhflihiaaDoorBstorefills23
import Derived.Test.YtlgcdcjhflihiaaDoorBstorefills4
import Derived.RangeFuncNested
import Derived.Test.YtlgcdcjhflihiaaDoorBstorefills2
namespace Go.Proofs.YtlgcdcjhflihiaaDoor
open Go.RowKit Go.Shelf
set_option linter.unusedVariables false

/-- An iterator over the rows of the tree at p, from I on below K. -/
def SpanV (w : World) (lb : Array Value) (p : Option Addr) (I K : Int) : Prop :=
  ∃ rb ib jb : Nat, lb = #[.pointer (some ⟨rb, 0, none⟩), .pointer (some ⟨ib, 0, none⟩), .pointer (some ⟨jb, 0, none⟩)] ∧ w.heap[rb]? = some (.cells #[.pointer p] 109 (0, 0)) ∧ w.heap[ib]? = some (.cells #[.int .i64 I] 3 (0, 0)) ∧ w.heap[jb]? = some (.cells #[.int .i64 K] 3 (0, 0))

theorem SpanV.below {w w' : World} {lb : Array Value} {p : Option Addr} {I K : Int} (h : SpanV w lb p I K) (b : Below w.heap.size w w') : SpanV w' lb p I K := by
  obtain ⟨rb, ib, jb, h1, h2, h3, h4⟩ := h
  exact ⟨rb, ib, jb, h1, blk_on h2 b, blk_on h3 b, blk_on h4 b⟩

set_option maxHeartbeats 3200000 in
set_option maxRecDepth 100000 in
theorem yspan (I K : Int) {w : World} {tb : Nat} {jv : Value} {p : Option Addr} (ht : TObjE w tb jv p) :
    Calls Tryd.prog 40 #[.pointer (some ⟨tb, 0, none⟩), .int .i64 I, .int .i64 K] w fun e w' => ∃ lb, e = .returned (.func (.func 58) #[] lb) ∧ SpanV w' lb p I K ∧ Below w.heap.size w w' := by
  have hmf : ∀ (fn : Fn) (first cap : Array Value) (w : World), (Instr.makeFunc fn first cap).run Tryd.prog w = .ok (.func fn first cap) w := fun _ _ _ _ => rfl
  have b0 := bnew w (.cells #[.int .i64 I] 3)
  have b1 := bnew (w.alloc (.cells #[.int .i64 I] 3)) (.cells #[.int .i64 K] 3)
  have b2 := bnew ((w.alloc (.cells #[.int .i64 I] 3)).alloc (.cells #[.int .i64 K] 3)) (.cells #[.pointer p] 109)
  have G0 := aside (blk_on (blk_on (heap_alloc_new w (.cells #[.int .i64 I] 3)) b1) b2)
  have g1 := blk_on (heap_alloc_new (w.alloc (.cells #[.int .i64 I] 3)) (.cells #[.int .i64 K] 3)) b2
  have g2 := heap_alloc_new ((w.alloc (.cells #[.int .i64 I] 3)).alloc (.cells #[.int .i64 K] 3)) (.cells #[.pointer p] 109)
  simp only [World.size_alloc] at g1 g2
  have G1 := aside g1
  have G2 := aside g2
  have B := aside (bthen (bthen b0 b1) b2)
  have ht' : TObjE ((w.alloc (.cells #[.int .i64 I] 3)).alloc (.cells #[.int .i64 K] 3)) tb jv p := blk_on (blk_on ht b0) b1
  obtain ⟨-, -, -, -, r0, -⟩ := tobjE ht'
  clear ht ht' g1 g2 b0 b1 b2
  go_enter Tryd.func40, Tryd.ntmps40
  go_wp2
  go_ret
  exact ⟨_, rfl, ⟨_, _, _, rfl, G2.out, G0.out, G1.out⟩, B.out⟩

/-- The rows that such an iterator hands out. -/
def spanL (T : Tr En Tl) (I K : Int) : List (Rw En Tl) := seg T.rows (max I 0).toNat (min K (T.cnt : Int)).toNat

theorem max_if (I : Int) : (if I < 0 then 0 else I) = max I 0 := by omega
theorem min_if (K c : Int) : (if c < K then c else K) = min K c := by omega

set_option maxHeartbeats 6400000 in
set_option maxRecDepth 100000 in
theorem span0 {w : World} {p : Option Addr} {T : Tr En Tl} {I K : Int} {lb : Array Value} {Ok : Rw En Tl → Prop} (h : SpanV w lb p I K) (hT : IsTE w p T) (hc : T.cnt ≤ 4611686018427387904) (hok : ∀ x ∈ T.rows, Ok x) (hK : -4611686018427387904 ≤ K) {N : Nat} (hN : (spanL T I K).length ≤ N) {Kp : World → World → Prop} (hKp : ∀ A B, Kp A B → Stay 120 A B)
    (m l : Nat) (J Jx : List (Rw En Tl) → World → Prop) (W : World) (hW : Below w.heap.size w W) (hd : ∀ s W, J s W → J s W.drew) (hY : YOk Ok l m N Kp J Jx) (h0 : J [] W) :
    Calls Tryd.prog 58 (#[.func (.yield l) #[] #[]] ++ lb) W fun e W' => (∃ v, e = .returned v) ∧ ((∃ xs, xs = spanL T I K ∧ J xs W') ∨ (∃ pre, pre <+: spanL T I K ∧ Jx pre W')) := by
  have h' := h.below hW
  obtain ⟨rb, ib, jb, rfl, g0, g1, g2⟩ := h'
  have hT' : IsTE W p T := hT.on (fun _ _ e => blk_on e hW)
  have CW := aside (walkE hKp hd hY T hc hok (max I 0) (min K (T.cnt : Int)) p [] W.drew (hT'.on (Stay.refl _ _).drew) (by omega) (by omega) (hd _ _ h0) (by
    have e1 : (spanL T I K).length = (min K (T.cnt : Int)).toNat - (max I 0).toNat := by
      unfold spanL seg
      have := Tr.rows_length T
      simp only [List.length_drop, List.length_take]
      omega
    simp only [List.length_nil]
    omega) (by omega))
  have CR := aside (rowsE (hT'.on (Stay.refl _ W).drew))
  rw [show seg T.rows (max I 0).toNat (min K (T.cnt : Int)).toNat = spanL T I K from rfl] at CW
  generalize spanL T I K = sg at *
  have HS := aside (show W.cell? ⟨rb, 0, none⟩ = some (.pointer p) ∧ W.cell? ⟨ib, 0, none⟩ = some (.int .i64 I) ∧ W.cell? ⟨jb, 0, none⟩ = some (.int .i64 K) from ⟨cell_one g0, cell_one g1, cell_one g2⟩)
  obtain ⟨c, hcc⟩ : ∃ c : Int, (T.cnt : Int) = c := ⟨_, rfl⟩
  rw [hcc] at CW CR
  obtain ⟨a, ha⟩ : ∃ a : Int, max I 0 = a := ⟨_, rfl⟩
  obtain ⟨b, hb⟩ : ∃ b : Int, min K c = b := ⟨_, rfl⟩
  rw [ha, hb] at CW
  have HA := aside ((max_if I).trans ha)
  have HB := aside ((min_if K c).trans hb)
  clear h hT hT' g0 g1 g2 hY h0 hd hcc ha hb hc hK hN hW hok
  show Calls Tryd.prog 58 #[.func (.yield l) #[] #[], .pointer (some ⟨rb, 0, none⟩), .pointer (some ⟨ib, 0, none⟩), .pointer (some ⟨jb, 0, none⟩)] W _
  go_enter Tryd.func58, Tryd.ntmps58
  go_wp2_with fail
  refine wp_region_until (z := 8) (S := fun X => X.cell? ⟨rb, 0, none⟩ = some (.pointer p) ∧ X.cell? ⟨ib, 0, none⟩ = some (.int .i64 I) ∧ X.cell? ⟨jb, 0, none⟩ = some (.int .i64 K)) (by kernel_rfl) HS.out (fun hHeld => ?_)
  refine Until.take (i := 0) (v := ?_) [8] rfl (by kernel_rfl) (by kernel_rfl) (by kernel_rfl) (by kernel_rfl) (by rfl) (by rfl) (by kernel_rfl) (fun _ _ _ h => h) (Or.inl ⟨by rfl, ?_⟩) (by assumption) ?_
  rotate_left
  · intro w hSw
    go_simp
    try with_reducible rfl
  simp only [Act.put, List.getElem_toArray, List.getElem_cons_zero, List.setIfInBounds_toArray, List.set_cons_zero, List.set_cons_succ]
  refine Until.take (i := 1) (v := ?_) [2, 8] rfl (by kernel_rfl) (by kernel_rfl) (by kernel_rfl) (by kernel_rfl) (by rfl) (by rfl) (by kernel_rfl) (fun _ _ _ h => h) (Or.inl ⟨by rfl, ?_⟩) (by assumption) ?_
  rotate_left
  · intro w hSw
    go_simp
    try with_reducible rfl
  simp only [Act.put, List.getElem_toArray, List.getElem_cons_zero, List.getElem_cons_succ, List.setIfInBounds_toArray, List.set_cons_zero, List.set_cons_succ]
  refine Until.take (i := 2) (v := ?_) [8] rfl (by kernel_rfl) (by kernel_rfl) (by kernel_rfl) (by kernel_rfl) (by rfl) (by rfl) (by kernel_rfl) (fun _ _ _ h => h) (Or.inl ⟨by rfl, ?_⟩) (by assumption) ?_
  rotate_left
  · intro w hSw
    go_simp
    try with_reducible rfl
  simp only [Act.put, List.getElem_toArray, List.getElem_cons_zero, List.getElem_cons_succ, List.setIfInBounds_toArray, List.set_cons_zero, List.set_cons_succ]
  rw [HA.out]
  refine Until.take (i := 3) (v := ?_) [6, 8] rfl (by kernel_rfl) (by kernel_rfl) (by kernel_rfl) (by kernel_rfl) (by rfl) (by rfl) (by kernel_rfl) (fun _ _ _ h => h) (Or.inl ⟨by rfl, ?_⟩) (by assumption) ?_
  rotate_left
  · intro w hSw
    go_simp
    try with_reducible rfl
  simp only [Act.put, List.getElem_toArray, List.getElem_cons_zero, List.getElem_cons_succ, List.setIfInBounds_toArray, List.set_cons_zero, List.set_cons_succ]
  refine Until.take (i := 4) (v := ?_) [5, 6, 8] rfl (by kernel_rfl) (by kernel_rfl) (by kernel_rfl) (by kernel_rfl) (by rfl) (by rfl) (by kernel_rfl) (fun _ _ _ h => h) (Or.inl ⟨by rfl, ?_⟩) (by assumption) ?_
  rotate_left
  · intro w hSw
    go_simp
    try with_reducible rfl
  simp only [Act.put, List.getElem_toArray, List.getElem_cons_zero, List.getElem_cons_succ, List.setIfInBounds_toArray, List.set_cons_zero, List.set_cons_succ]
  refine Until.takeY (i := 7) (v := ?_) rfl (by kernel_rfl) (by kernel_rfl) (by kernel_rfl) (by rfl) (fun _ _ _ h => h) (Or.inl ⟨by rfl, ?_⟩) (by assumption) ?_
  rotate_left
  · intro w hSw
    go_simp
    try with_reducible rfl
  simp only [Act.put, List.getElem_toArray, List.getElem_cons_zero, List.getElem_cons_succ, List.setIfInBounds_toArray, List.set_cons_zero, List.set_cons_succ]
  refine Until.step (i := 5) (by kernel_rfl) rfl (by rfl) (fun K' hK' => ?_)
  go_simp
  refine CR.out.mono ?_
  rintro e w9 ⟨rfl, rfl⟩
  refine hK'.out _ _ hHeld (fun hHeld => ?_)
  clear hK' K'
  refine Until.take (i := 6) (v := ?_) [8] rfl (by kernel_rfl) (by kernel_rfl) (by kernel_rfl) (by kernel_rfl) (by rfl) (by rfl) (by kernel_rfl) (fun _ _ _ h => h) (Or.inl ⟨by rfl, ?_⟩) (by assumption) ?_
  rotate_left
  · intro w hSw
    go_simp
    try with_reducible rfl
  simp only [Act.put, List.getElem_toArray, List.getElem_cons_zero, List.getElem_cons_succ, List.setIfInBounds_toArray, List.set_cons_zero, List.set_cons_succ]
  rw [HB.out]
  refine Until.last (by kernel_rfl) rfl (fun K' hK' => ?_)
  go_simp
  refine CW.out.mono ?_
  rintro e w8 (⟨rfl, h1, h2⟩ | ⟨rfl, q, h1, h2⟩)
  · refine hK'.out _ _ ?_
    clear hK' K'
    refine wpAny_of_held (S := fun _ => True) _ _ _ _ ?_
    refine wpAnyH_done (by kernel_rfl) ?_ _
    have H1 := aside h1
    clear h1 h2
    go_wp2
    go_end0
    exact ⟨⟨_, rfl⟩, .inl ⟨_, rfl, by have h9 := H1.out; simpa using h9⟩⟩
  · refine hK'.out _ _ ?_
    clear hK' K'
    refine wpAny_of_held (S := fun _ => True) _ _ _ _ ?_
    refine wpAnyH_done (by kernel_rfl) ?_ _
    have H1 := aside h1
    have H2 := aside h2
    clear h1 h2
    go_wp2
    go_end0
    exact ⟨⟨_, rfl⟩, .inr ⟨q, by have h9 := H1.out; simpa using h9, H2.out⟩⟩

theorem span1 {w : World} {p : Option Addr} {T : Tr En Tl} {I K : Int} {lb : Array Value} (h : SpanV w lb p I K) (hT : IsTE w p T) (hc : T.cnt ≤ 4611686018427387904) (hK : -4611686018427387904 ≤ K) {n N : Nat} (hN : (spanL T I K).length ≤ N) {Kp : World → World → Prop} (hKp : ∀ A B, Kp A B → Stay 120 A B) :
    SeqStopsK Fence.wide n Tryd.prog 58 lb encs2 Kp (fun ys => ys = spanL T I K) (fun q => q <+: spanL T I K) N w := by
  intro l J Jx W hW hJ hJx hY h0
  have hd : ∀ s W, J s W → J s W.drew := fun s W1 hs => hJ s W1 W1.drew none hs ⟨rfl, rfl, rfl, Nat.le_refl _, fun _ _ _ => rfl⟩ (fun r e => by cases e)
  exact callsIn_wide.2 (span0 (Ok := fun _ => True) h hT hc (fun _ _ => trivial) hK hN hKp _ l J Jx W hW hd (fun pre x W1 _ hp hl => hY pre x W1 hp hl) h0)

end Go.Proofs.YtlgcdcjhflihiaaDoor
namespace Go.Proofs.YtlgcdcjhflihiaaDoor
open Go.RowKit Go.Shelf
set_option linter.unusedVariables false

/-- What the iterator g does with whatever yield: it hands out all of S, or is stopped. The invariants may not mind what becomes of blocks that are no cells and were laid since. -/
def SeqO {α : Type} (P : Program) (g : Nat) (lb : Array Value) (encs : α → Array Value) (Kp : World → World → Prop) (S Sp : List α → Prop) (N : Nat) (w : World) : Prop :=
  ∀ (m l : Nat) (J Jx : List α → World → Prop) (W : World), Below w.heap.size w W → OwnFrom W.heap.size J → OwnFrom W.heap.size Jx →
    (∀ pre x W1, J pre W1 → pre.length < N → YieldAt Fence.wide m P l (encs x) W1 fun e W' =>
      KeepsFrom W.heap.size W1 W' ∧ ((e = .returned (.bool true) ∧ J (pre ++ [x]) W' ∧ Kp W1 W') ∨ (e = .returned (.bool false) ∧ Jx (pre ++ [x]) W'))) →
    J [] W →
    Calls P g (#[.func (.yield l) #[] #[]] ++ lb) W fun e W' => (∃ v, e = .returned v) ∧ ((∃ xs, S xs ∧ J xs W') ∨ (∃ pre, Sp pre ∧ Jx pre W'))

theorem ownFrom_abides {β : Type} {B : Nat} {J : β → World → Prop} (h : OwnFrom B J) : AbidesFrom B J := fun s W W' row hs hg hr =>
  h s W W' row hs hg (fun r e => by obtain ⟨h1, o, h2, h3⟩ := hr r e; exact ⟨h1, o, h2, Obj.not_cells_of_walk h3⟩)

theorem SeqO.of_stops {α : Type} {P : Program} {g : Nat} {lb : Array Value} {encs : α → Array Value} {Kp : World → World → Prop} {S Sp : List α → Prop} {N : Nat} {w : World} (h : ∀ n, SeqStopsK Fence.wide n P g lb encs Kp S Sp N w) : SeqO P g lb encs Kp S Sp N w :=
  fun m l J Jx W hW hJ hJx hY h0 => callsIn_wide.1 (h (m + 1) l J Jx W hW (ownFrom_abides hJ) (ownFrom_abides hJx) (fun pre x W1 hp hl => (hY pre x W1 hp hl).mono (fun _ _ h => h.2)) h0)

theorem SeqO.of_below {α : Type} {P : Program} {g : Nat} {lb : Array Value} {encs : α → Array Value} {Kp : World → World → Prop} {S Sp : List α → Prop} {N : Nat} {w w' : World} (h : SeqO P g lb encs Kp S Sp N w) (b : Below w.heap.size w w') : SeqO P g lb encs Kp S Sp N w' :=
  fun m l J Jx W hW => h m l J Jx W (b.trans (hW.mono b.size))

/-- The two blocks in which a loop keeps its own state. -/
structure Bk (B : Nat) (r : Loop) (W : World) : Prop where
  lp : W.heap[B + 1]? = some (.loop r)
  def_ : W.heap[B]? = some (.deferred (some []))

theorem Bk.put {B : Nat} {r : Loop} {W : World} (h : Bk B r W) (r' : Loop) : Bk B r' (W.putObj (B + 1) (.loop r')) :=
  ⟨World.putObj_heap_same (Array.getElem?_eq_some_iff.1 h.lp).1, (World.putObj_heap_other (by omega)).trans h.def_⟩
theorem Bk.kept {B : Nat} {r : Loop} {W W' : World} (h : Bk B r W) (k : KeepsFrom B W W') : Bk B r W' :=
  ⟨k.same _ _ (by omega) h.lp rfl, k.same _ _ (Nat.le_refl _) h.def_ rfl⟩
theorem Bk.grown {B C : Nat} {r : Loop} {W W' : World} {row : Option Nat} (h : Bk B r W) (hC : B + 2 ≤ C) (g : W.grownBy W' row) (hr : ∀ i, row = some i → C ≤ i) : Bk B r W' :=
  ⟨(g.block _ (Array.getElem?_eq_some_iff.1 h.lp).1 (fun e => by have := hr _ e.symm; omega)).trans h.lp, (g.block _ (Array.getElem?_eq_some_iff.1 h.def_).1 (fun e => by have := hr _ e.symm; omega)).trans h.def_⟩
theorem Bk.own {β : Type} {B C : Nat} {r : Loop} {I : β → World → Prop} (hI : OwnFrom B I) (hC : B + 2 ≤ C) : OwnFrom C (fun s W => I s W ∧ Bk B r W) :=
  fun s W W' row hs g hr => ⟨hI s W W' row hs.1 g (fun i e => ⟨by have := (hr i e).1; omega, (hr i e).2⟩), hs.2.grown hC g (fun i e => (hr i e).1)⟩

theorem keepsFrom_up {B C : Nat} {W W' : World} (h : KeepsFrom B W W') (hBC : B ≤ C) : KeepsFrom C W W' := ⟨h.size, fun k o hk => h.same k o (by omega)⟩
theorem keepsFrom_put (B l : Nat) (W : World) (o : Obj) (h : l < B) : KeepsFrom B W (W.putObj l o) := ⟨by simp, fun k o' hk e _ => (World.putObj_heap_other (by omega)).trans e⟩

/-- A loop over such an iterator. -/
theorem rangeO {P : Program} {n : Nat} {α : Type} {g : Operand} {ps : Array Tmp} {assign body : Code} {Q : Exit → Act → World → Prop} {a : Act} {w : World}
    {gf : Nat} {lb : Array Value} (hg : a.eval g = .func (.func gf) #[] lb) (eg : ∀ args w, (callFunc gf args).run P w = .ok (.enter gf args) w)
    {encs : α → Array Value} {Kp : World → World → Prop} {S Sp : List α → Prop} {N : Nat} {w0 : World} (hseq : SeqO P gf lb encs Kp S Sp N w0)
    (hKt : ∀ {A B C : World}, Kp A B → Kp B C → Kp A C) (hKb : ∀ (W : World) (l : Nat) (o o' : Obj), w.heap.size ≤ l → W.heap[l]? = some o → o.isCells = false → Kp W (W.putObj l o')) (hb0 : Below w0.heap.size w0 w) (hps : ∀ x, (encs x).size = ps.size)
    (I : List α → World → Prop) (Ix : Code → List α → World → Prop) (hI : OwnFrom w.heap.size I) (hIx : ∀ c, OwnFrom w.heap.size (Ix c)) (h0 : I [] w) (Ax : α → Act → World → Prop) (hAx : ∀ x a', OwnFrom w.heap.size (fun (_ : Unit) W => Ax x a' W))
    (hassign : ∀ (l : Nat) (pre : List α) (x : α) (W : World) (K : Act → World → Prop), I pre W → (∀ a' W', KeepsFrom w.heap.size W W' → Kp W W' → I pre W' → Ax x a' W' → K a' W') →
      assign.wpIn (Fence.wide.inRound l) (n - 1 - 1) P (Exit.then K (fun _ _ _ => False)) { tmps := (ps.zip (encs x)).foldl (fun t (p, v) => t.setIfInBounds p v) a.tmps, defers := [] } W)
    (hbody : ∀ (l : Nat) (pre : List α) (x : α) (a' : Act) (W : World), I pre W → Ax x a' W → pre.length < N → body.wpIn (Fence.wide.inRound l) (n - 1 - 1) P (ownPostG w.heap.size Kp I Ix (pre ++ [x]) W) a' W)
    (hdone : ∀ (D : Nat) (xs : List α) (W : World), w.heap.size ≤ D → S xs → I xs W → W.heap[D]? = some (.deferred (some [])) → Q .normal { a with defers := { target := .collected D, args := #[] } :: a.defers } W)
    (hstop : ∀ (D : Nat) (c : Code) (pre : List α) (W : World), w.heap.size ≤ D → Sp pre → Ix c pre W → W.heap[D]? = some (.deferred (some [])) → c.wpIn Fence.wide n P Q { a with defers := { target := .collected D, args := #[] } :: a.defers } W) :
    (Code.rangeFunc g ps assign body).wpIn Fence.wide n P Q a w := by
  refine wpIn_rangeFunc fun fn hfn => ?_
  obtain ⟨B, hB⟩ : ∃ B, w.heap.size = B := ⟨_, rfl⟩
  obtain ⟨R, hR⟩ : ∃ R : LoopState → Option Code → Loop, R = fun st pe => { state := st, pending := pe, fn, tmps := a.tmps, params := ps, assign, body, defers := B } := ⟨_, rfl⟩
  obtain ⟨V, hV⟩ : ∃ V, (w.alloc (.deferred (some []))).alloc (.loop (R .ready none)) = V := ⟨_, rfl⟩
  have bV : Below w.heap.size w V := by rw [← hV]; exact ((Below.refl _ w).alloc (Nat.le_refl _) _).alloc (by simp) _
  have sV : V.heap.size = B + 2 := by rw [← hV, ← hB]; simp
  have kV : Bk B (R .ready none) V := by
    rw [← hV, ← hB]
    have h2 := heap_alloc_new (w.alloc (.deferred (some []))) (.loop (R .ready none))
    rw [World.size_alloc] at h2
    exact ⟨h2, (Below.heap_alloc _ _ _ (by simp)).trans (heap_alloc_new w _)⟩
  have iV : I [] V := by rw [← hV]; exact hI.alloc _ (hI.alloc _ h0)
  rw [hB] at hI hIx hAx hKb hassign hbody hdone hstop
  refine ⟨B + 1, [{ target := .collected B, args := #[] }], V, { target := .fn (.func gf) lb, args := #[.func (.yield (B + 1)) #[] #[]] }, V, gf, #[.func (.yield (B + 1)) #[] #[]] ++ lb, V, ?_, ?_, fun _ _ => trivial, ?_, fun h => (by cases h), ?_⟩
  · rw [← hV, hR, ← hB]; exact run_enterLoop_outer _ _ _ _ _
  · simp only [resolve, hg]
    simp [go_sem]
  · simp [invoke, go_sem, eg]
  refine callsIn_wide.2 ?_
  -- the iterator is told: the invariant, and the loop's own blocks
  refine (hseq (n - 1 - 1) (B + 1) (fun pre W => I pre W ∧ Bk B (R .ready none) W) (fun pre W => ∃ c, Ix c pre W ∧ Bk B (R .done (some c)) W) V (hb0.trans (bV.mono hb0.size)) (Bk.own hI (by omega))
    (fun s W W' row hs g hr => by
      obtain ⟨c, h1, h2⟩ := hs
      exact ⟨c, Bk.own (hIx c) (Nat.le_of_eq sV.symm) s W W' row ⟨h1, h2⟩ g hr⟩) ?_ ⟨iV, kV⟩).mono ?_
  · rintro pre x W ⟨hi, hk⟩ hlen
    have hy := run_yield (P := P) (args := encs x) hk.lp (by rw [hR]; exact hps x)
    rw [hR] at hy
    refine ⟨fn, _, assign, body, hy, roundIn_of_wpIn hfn (hassign _ pre x W _ hi ?_)⟩
    intro a' Wa kf kp ia ax
    have ka := hk.kept kf
    refine ⟨_, run_beginRound ka.lp (by rw [hR]), ?_⟩
    have kb := ka.put { R .ready none with state := .busy }
    refine wpIn_mono (hbody _ pre x a' _ (hI.putObj _ ia (by omega) ka.lp rfl) ((hAx x a').putObj (s := ()) _ ax (by omega) ka.lp rfl) hlen) ?_
    have turn : ∀ (j : Option Code) (W3 : World), KeepsFrom B (Wa.putObj (B + 1) (.loop { R .ready none with state := .busy })) W3 →
        ∃ W4, KeepsFrom (B + 2) W W4 ∧ W4 = W3.putObj (B + 1) (.loop (R (if j.isNone then .ready else .done) j)) ∧ (Instr.endRound (B + 1) j).run P W3 = .ok (.bool j.isNone) W4 ∧ Bk B (R (if j.isNone then .ready else .done) j) W4 ∧ (∃ o, W3.heap[B + 1]? = some o ∧ o.isCells = false) := fun j W3 k3 => by
      have k4 := kb.kept k3
      have e := run_endRound (P := P) j k4.lp
      refine ⟨_, (((keepsFrom_up kf (by omega)).trans (keepsFrom_put _ _ _ _ (by omega))).trans (keepsFrom_up k3 (by omega))).trans (keepsFrom_put _ _ _ _ (by omega)), rfl, ?_, k4.put _, _, k4.lp, rfl⟩
      rw [hR] at e ⊢
      exact e
    have leave : ∀ (c : Code) (W3 : World), KeepsFrom B (Wa.putObj (B + 1) (.loop { R .ready none with state := .busy })) W3 → Ix c (pre ++ [x]) W3 →
        ∃ W4, KeepsFrom (B + 2) W W4 ∧ (Instr.endRound (B + 1) (some c)).run P W3 = .ok (.bool false) W4 ∧ ∃ c, Ix c (pre ++ [x]) W4 ∧ Bk B (R .done (some c)) W4 := fun c W3 k3 i3 => by
      obtain ⟨W4, kk, rfl, e, k4, o, h1, h2⟩ := turn (some c) W3 k3
      exact ⟨_, kk, e, c, (hIx c).putObj _ i3 (by omega) h1 h2, k4⟩
    rintro ex a3 W3 hp
    cases ex with
    | normal =>
      obtain ⟨W4, kk, rfl, e, k4, o, h1, h2⟩ := turn none W3 hp.1
      exact ⟨_, _, e, (by rw [sV]; exact kk), .inl ⟨rfl, ⟨hI.putObj _ hp.2.2 (by omega) h1 h2, k4⟩, hKt kp (hKt (hKt (hKb _ _ _ _ (by omega) ka.lp rfl) hp.2.1) (hKb _ _ _ _ (by omega) h1 h2))⟩⟩
    | ret => obtain ⟨W4, kk, e, i4⟩ := leave .ret W3 hp.1 hp.2; exact ⟨_, _, e, (by rw [sV]; exact kk), .inr ⟨rfl, i4⟩⟩
    | exit id => obtain ⟨W4, kk, e, i4⟩ := leave (.exit id) W3 hp.1 hp.2; exact ⟨_, _, e, (by rw [sV]; exact kk), .inr ⟨rfl, i4⟩⟩
    | goto t => obtain ⟨W4, kk, e, i4⟩ := leave (.goto t) W3 hp.1 hp.2; exact ⟨_, _, e, (by rw [sV]; exact kk), .inr ⟨rfl, i4⟩⟩
    | panic c => exact hp.elim
    | outgrown => exact hp.elim
  · rintro e W2 ⟨⟨v, rfl⟩, ⟨xs, hS, hi, hk⟩ | ⟨pre, hSp, c, hi, hk⟩⟩
    · refine ⟨none, _, ?_, hdone B xs _ (Nat.le_refl _) hS (hI.putObj (.loop { R .ready none with state := .exhausted }) hi (by omega) hk.lp rfl) (hk.put _).def_⟩
      have e := run_endLoop (P := P) hk.lp (by rw [hR]; simp)
      rw [hR] at e ⊢
      exact e
    · refine ⟨some c, _, ?_, hstop B c pre _ (Nat.le_refl _) hSp ((hIx c).putObj (.loop { R .done (some c) with state := .exhausted }) hi (by omega) hk.lp rfl) (hk.put _).def_⟩
      have e := run_endLoop (P := P) hk.lp (by rw [hR]; simp)
      rw [hR] at e ⊢
      exact e

end Go.Proofs.YtlgcdcjhflihiaaDoor
namespace Go.Proofs.YtlgcdcjhflihiaaDoor
set_option linter.unusedVariables false
/-- Bytes as a number, the first byte the lowest one. -/
def leB : List UInt8 → Nat
  | [] => 0
  | b :: r => b.toNat + 256 * leB r

theorem leB_lt : ∀ l : List UInt8, leB l < 256 ^ l.length
  | [] => by simp [leB]
  | b :: r => by
    have h := leB_lt r
    have hb := b.toNat_lt
    simp only [leB, List.length_cons, Nat.pow_succ]
    omega

theorem leB_snoc (b : UInt8) : ∀ l : List UInt8, leB (l ++ [b]) = leB l + 256 ^ l.length * b.toNat
  | [] => by simp [leB]
  | a :: r => by
    simp only [List.cons_append, leB, leB_snoc b r, List.length_cons, Nat.pow_succ]
    rw [Nat.mul_add, Nat.add_assoc, ← Nat.mul_assoc, Nat.mul_comm 256 (256 ^ r.length)]

/-- The word that begins at byte m. -/
def wordN (k : List UInt8) (m : Nat) : Nat := leB ((k.drop m).take 8)

theorem wordN_lt (k : List UInt8) (m : Nat) : wordN k m < 18446744073709551616 := by
  have h := leB_lt ((k.drop m).take 8)
  have hl : ((k.drop m).take 8).length ≤ 8 := by simp; omega
  have : 256 ^ ((k.drop m).take 8).length ≤ 256 ^ 8 := Nat.pow_le_pow_right (by decide) hl
  unfold wordN
  omega

/-- The first j words of a key. -/
def keyW (k : List UInt8) (j : Nat) : List Int := (List.range j).map fun m => (wordN k (8 * m) : Int)

theorem keyW_succ (k : List UInt8) (j : Nat) : keyW k (j + 1) = keyW k j ++ [(wordN k (8 * j) : Int)] := by simp [keyW, List.range_succ]

theorem keyW_length (k : List UInt8) (j : Nat) : (keyW k j).length = j := by simp [keyW]

/-- How many words a key has. -/
def keyN (n : Nat) : Nat := (n + 7) / 8

/-- All words of a key and a version. -/
def wordsI (k : ByteArray) (c n : Int) : List Int := (k.size : Int) :: keyW k.data.toList (keyN k.size) ++ [IntKind.u64.wrap c, IntKind.u64.wrap n]

def lane0 (ws : List Int) : Int := ws.foldl (mixI 11400714819323198485 29) 2611923443488327891

def lane1 (ws : List Int) : Int := ws.foldl (mixI 14029467366897019727 32) 1376283091369227076

theorem lane0_snoc (ws : List Int) (u : Int) : lane0 (ws ++ [u]) = mixI 11400714819323198485 29 (lane0 ws) u := by simp [lane0]

theorem lane1_snoc (ws : List Int) (u : Int) : lane1 (ws ++ [u]) = mixI 14029467366897019727 32 (lane1 ws) u := by simp [lane1]

/-- What an entry comes to, lane by lane. -/
def of0 (k : ByteArray) (c n : Int) : Int := lane0 (wordsI k c n)

def of1 (k : ByteArray) (c n : Int) : Int := lane1 (wordsI k c n)

def ofV (k : ByteArray) (c n : Int) : Value := .agg #[.int .u64 (of0 k c n), .int .u64 (of1 k c n)]

theorem wordsI_snoc (k : ByteArray) (c n : Int) : wordsI k c n = (((k.size : Int) :: keyW k.data.toList (keyN k.size)) ++ [IntKind.u64.wrap c]) ++ [IntKind.u64.wrap n] := by simp [wordsI]

/-- The list that the document's loop has made of the first i bytes. -/
def doneW (k : List UInt8) (i : Nat) : List Int := keyW k (i / 8) ++ (if i % 8 = 0 then [] else [(leB ((k.drop (8 * (i / 8))).take (i % 8)) : Int)])

theorem doneW_zero (k : List UInt8) : doneW k 0 = [] := by simp [doneW, keyW]

theorem doneW_all (k : List UInt8) : doneW k k.length = keyW k (keyN k.length) := by
  unfold doneW keyN
  by_cases h : k.length % 8 = 0
  · rw [if_pos h, List.append_nil, show (k.length + 7) / 8 = k.length / 8 from by omega]
  · rw [if_neg h, show (k.length + 7) / 8 = k.length / 8 + 1 from by omega, keyW_succ]
    congr 3
    unfold wordN
    rw [List.take_of_length_le (by simp; omega), List.take_of_length_le (by simp; omega)]

/-- The part word at byte i, ahead of it and behind it. -/
def partN (k : List UInt8) (i : Nat) : Nat := leB ((k.drop (8 * (i / 8))).take (i % 8))

theorem partN_lt (k : List UInt8) (i : Nat) : partN k i < 256 ^ (i % 8) := by
  have h := leB_lt ((k.drop (8 * (i / 8))).take (i % 8))
  have hl : ((k.drop (8 * (i / 8))).take (i % 8)).length ≤ i % 8 := by simp; omega
  have : 256 ^ ((k.drop (8 * (i / 8))).take (i % 8)).length ≤ 256 ^ (i % 8) := Nat.pow_le_pow_right (by decide) hl
  unfold partN
  omega

theorem doneW_next (k : List UInt8) (i : Nat) (h : i < k.length) : doneW k (i + 1) = keyW k (i / 8) ++ [((partN k i + k[i].toNat * 256 ^ (i % 8) : Nat) : Int)] := by
  have hd : (k.drop (8 * (i / 8))).take (i % 8 + 1) = (k.drop (8 * (i / 8))).take (i % 8) ++ [k[i]] := by
    rw [List.take_add_one]
    congr 1
    rw [List.getElem?_drop, show 8 * (i / 8) + i % 8 = i from by omega, List.getElem?_eq_getElem h]
    rfl
  have hv : leB ((k.drop (8 * (i / 8))).take (i % 8 + 1)) = partN k i + k[i].toNat * 256 ^ (i % 8) := by
    rw [hd, leB_snoc, show ((k.drop (8 * (i / 8))).take (i % 8)).length = i % 8 from by rw [List.length_take, List.length_drop]; omega]
    unfold partN
    rw [Nat.mul_comm k[i].toNat]
  unfold doneW
  by_cases h7 : i % 8 = 7
  · rw [if_pos (by omega), List.append_nil, show (i + 1) / 8 = i / 8 + 1 from by omega, keyW_succ, ← hv, h7]
    rfl
  · rw [if_neg (by omega), show (i + 1) / 8 = i / 8 from by omega, show (i + 1) % 8 = i % 8 + 1 from by omega, hv]

theorem doneW_here (k : List UInt8) (i : Nat) (h : i % 8 ≠ 0) : doneW k i = keyW k (i / 8) ++ [(partN k i : Int)] := by
  unfold doneW
  rw [if_neg h]
  rfl

theorem doneW_edge (k : List UInt8) (i : Nat) (h : i % 8 = 0) : doneW k i = keyW k (i / 8) ∧ partN k i = 0 := by
  unfold doneW partN
  rw [if_pos h, h]
  simp [leB]

theorem sum_lt (k : List UInt8) (i : Nat) (c : UInt8) : partN k i + c.toNat * 256 ^ (i % 8) < 18446744073709551616 := by
  have h := partN_lt k i
  have hc := c.toNat_lt
  have h8 : i % 8 < 8 := by omega
  generalize i % 8 = r at *
  generalize partN k i = p at *
  generalize c.toNat = q at *
  match r, h8 with
  | 0, _ | 1, _ | 2, _ | 3, _ | 4, _ | 5, _ | 6, _ | 7, _ => simp at h ⊢; omega

end Go.Proofs.YtlgcdcjhflihiaaDoor

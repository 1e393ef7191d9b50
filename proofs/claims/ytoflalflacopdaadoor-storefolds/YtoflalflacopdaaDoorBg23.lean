/-
  Plain mathematics: rows whose values are their summaries, texts of rows written one behind the other.
  Plain mathematics: ranks and places of a sorted list, folds of its parts.
  The walk over a whole tree; Span.
  Span: an iterator over the rows that there were.
  Scan and All: an iterator over entries that goes over the one of the tree.
  Scan and All; all that a store holds.
  The document's store: what All goes through, what Fold tells.
  held: all that a store holds, as a list of its own.
  What a store holds in a range, collected into a list.
  Names of sessions: which may be, how they compare; the code's calls and the document's own, each as a plain function.
  Parts of frames, plain: which may be, one by one and all of them.
  Lists of parts in memory.
  The code's small calls on parts and frames.
  checkEntries and checkPart, the code's.
  countEntries, CheckParts, isOpening and Check, the code's.
-/
import Derived.Test.YtoflalflacopdaaDoorBg2
import Derived.Test.YtoflalflacopdaaDoorBg1
import Derived.Test.YtoflalflacopdaaDoorBg22
import Derived.Test.YtoflalflacopdaaDoorBg15
import Derived.Test.YtoflalflacopdaaDoorBg21
import Derived.Test.YtoflalflacopdaaDoorBg20
import Derived.Test.YtoflalflacopdaaDoorBg17
import Derived.Laws.EntriesVeiled
import Derived.OwnWalkIn
import Derived.RangeFuncBox
import Derived.Laws.StructEq
import Derived.Deep.RegionHeld
namespace Go.Proofs.YtoflalflacopdaaDoor
open Go.RowKit
set_option linter.unusedVariables false
variable {β α : Type}
end Go.Proofs.YtoflalflacopdaaDoor
namespace Go.Proofs.YtoflalflacopdaaDoor
open Go.RowKit
set_option linter.unusedVariables false
variable {β α : Type}
end Go.Proofs.YtoflalflacopdaaDoor
namespace Go.Proofs.YtoflalflacopdaaDoor
open Go.RowKit Go.Shelf
set_option linter.unusedVariables false
theorem walkE {Ok : Rw En Tl → Prop} {l m N : Nat} {J Jx : List (Rw En Tl) → World → Prop} {Kp : World → World → Prop} (hKp : ∀ A B, Kp A B → Stay 135 A B) (hd : ∀ s W, J s W → J s W.drew) (hY : YOk Ok l m N Kp J Jx) :
    ∀ T : Tr En Tl, T.cnt ≤ 4611686018427387904 → (∀ x ∈ T.rows, Ok x) → WalkOk l N J Jx T
  | .nil, _, _ => fun I K p pre W hT hI hK hJ hN hK2 => by
    have h : K ≤ I := by simp [Tr.cnt] at hK; omega
    rw [sgI h]
    exact walkNone l J Jx pre I K p W h hJ
  | .node lt k v s rt, hc, hok => fun I K p pre W hT hI hK hJ hN hK2 => by
    by_cases h : K ≤ I
    · rw [sgI h]
      exact walkNone l J Jx pre I K p W h hJ
    have hcl : lt.cnt ≤ 4611686018427387904 := by simp only [Tr.cnt] at hc; omega
    have hcr : rt.cnt ≤ 4611686018427387904 := by simp only [Tr.cnt] at hc; omega
    have ihl := walkE hKp hd hY lt hcl (fun x hx => hok x (by simp [Tr.rows, hx]))
    have ihr := walkE hKp hd hY rt hcr (fun x hx => hok x (by simp [Tr.rows, hx]))
    obtain ⟨b, lp, rp, rfl, hb, hl, hr⟩ := hT
    have hcn : (Tr.node lt k v s rt).cnt = lt.cnt + 1 + rt.cnt := rfl
    rw [hcn] at hK hc
    have hll := Tr.rows_length lt
    have hrl := Tr.rows_length rt
    have hsg := seg_node lt.rows rt.rows ⟨k, v, s⟩ (i := I.toNat) (j := K.toNat) (by omega)
    have e1 : (Tr.node lt k v s rt).rows = lt.rows ++ ⟨k, v, s⟩ :: rt.rows := rfl
    have hlen : ∀ (R : List (Rw En Tl)) (a c : Nat), (seg R a c).length ≤ c - a := fun R a c => by unfold seg; simp; omega
    rw [e1, hsg]
    by_cases h2 : (lt.cnt : Int) < K
    · have e2 : min K.toNat lt.rows.length = ((lt.cnt : Int)).toNat := by omega
      rw [e2]
      have L1 := hlen lt.rows I.toNat ((lt.cnt : Int)).toNat
      by_cases h3 : I ≤ (lt.cnt : Int)
      · rw [if_pos ⟨by omega, by omega⟩, show I.toNat - lt.rows.length - 1 = (0 : Int).toNat from by omega, show K.toNat - lt.rows.length - 1 = (K - (lt.cnt : Int) - 1).toNat from by omega]
        refine walkOwn hKp hd hY hb (rowsE hl) (ihl I (lt.cnt : Int) lp pre W hl hI (by omega) hJ (by omega) (by omega)) (fun W' hs hJ' => ihr 0 (K - (lt.cnt : Int) - 1) rp _ W' (hr.on hs) (by omega) (by omega) hJ' ?_ (by omega)) (by omega) h3 h2 (by rw [IntKind.wrap_i64]; omega) (by rw [IntKind.wrap_i64]; omega) (by rw [IntKind.wrap_i64]; omega) (by rw [IntKind.wrap_i64]; omega) rfl ?_ (hok _ (by simp [Tr.rows]))
        · simp only [List.length_append, List.length_singleton]; omega
        · simp only [List.length_append]; omega
      · rw [if_neg (by omega), show I.toNat - lt.rows.length - 1 = (I - (lt.cnt : Int) - 1).toNat from by omega, show K.toNat - lt.rows.length - 1 = (K - (lt.cnt : Int) - 1).toNat from by omega]
        have L0 : seg lt.rows I.toNat ((lt.cnt : Int)).toNat = [] := seg_none _ (by omega)
        refine walkHigh hKp hd hY hb (rowsE hl) (ihl I (lt.cnt : Int) lp pre W hl hI (by omega) hJ (by omega) (by omega)) (fun W' hs hJ' => ihr (I - (lt.cnt : Int) - 1) (K - (lt.cnt : Int) - 1) rp _ W' (hr.on hs) (by omega) (by omega) hJ' ?_ (by omega)) (by omega) h3 h2 (by rw [IntKind.wrap_i64]; omega) (by rw [IntKind.wrap_i64]; omega) (by rw [IntKind.wrap_i64]; omega) (by rw [IntKind.wrap_i64]; omega) rfl
        rw [L0]; simp only [List.length_append, List.length_nil]; omega
    · have e2 : min K.toNat lt.rows.length = K.toNat := by omega
      rw [e2, if_neg (by omega), show seg rt.rows (I.toNat - lt.rows.length - 1) (K.toNat - lt.rows.length - 1) = seg rt.rows (0 : Int).toNat (K - (lt.cnt : Int) - 1).toNat from by rw [seg_none _ (by omega), seg_none _ (by omega)]]
      have L1 := hlen lt.rows I.toNat K.toNat
      refine walkLow hKp hd hY hb (rowsE hl) (ihl I K lp pre W hl hI (by omega) hJ (by omega) (by omega)) (fun W' hs hJ' => ihr 0 (K - (lt.cnt : Int) - 1) rp _ W' (hr.on hs) (by omega) (by omega) hJ' ?_ (by omega)) (by omega) (by omega) h2 (by rw [IntKind.wrap_i64]; omega) (by rw [IntKind.wrap_i64]; omega) (by rw [IntKind.wrap_i64]; omega) (by rw [IntKind.wrap_i64]; omega) rfl
      simp only [List.length_append]; omega
end Go.Proofs.YtoflalflacopdaaDoor
namespace Go.Proofs.YtoflalflacopdaaDoor
open Go.RowKit Go.Shelf
set_option linter.unusedVariables false
/-- An iterator over the rows of the tree at p, from I on below K. -/
def SpanV (w : World) (lb : Array Value) (p : Option Addr) (I K : Int) : Prop :=
  ∃ rb ib jb : Nat, lb = #[.pointer (some ⟨rb, 0, none⟩), .pointer (some ⟨ib, 0, none⟩), .pointer (some ⟨jb, 0, none⟩)] ∧ w.heap[rb]? = some (.cells #[.pointer p] 129 (0, 0)) ∧ w.heap[ib]? = some (.cells #[.int .i64 I] 3 (0, 0)) ∧ w.heap[jb]? = some (.cells #[.int .i64 K] 3 (0, 0))
theorem SpanV.below {w w' : World} {lb : Array Value} {p : Option Addr} {I K : Int} (h : SpanV w lb p I K) (b : Below w.heap.size w w') : SpanV w' lb p I K := by
  obtain ⟨rb, ib, jb, h1, h2, h3, h4⟩ := h
  exact ⟨rb, ib, jb, h1, blk_on h2 b, blk_on h3 b, blk_on h4 b⟩
set_option maxHeartbeats 3200000 in
set_option maxRecDepth 100000 in
theorem yspan (I K : Int) {w : World} {tb : Nat} {jv : Value} {p : Option Addr} (ht : TObjE w tb jv p) :
    Calls Tryd.prog 40 #[.pointer (some ⟨tb, 0, none⟩), .int .i64 I, .int .i64 K] w fun e w' => ∃ lb, e = .returned (.func (.func 71) #[] lb) ∧ SpanV w' lb p I K ∧ Below w.heap.size w w' := by
  have hmf : ∀ (fn : Fn) (first cap : Array Value) (w : World), (Instr.makeFunc fn first cap).run Tryd.prog w = .ok (.func fn first cap) w := fun _ _ _ _ => rfl
  have b0 := bnew w (.cells #[.int .i64 I] 3)
  have b1 := bnew (w.alloc (.cells #[.int .i64 I] 3)) (.cells #[.int .i64 K] 3)
  have b2 := bnew ((w.alloc (.cells #[.int .i64 I] 3)).alloc (.cells #[.int .i64 K] 3)) (.cells #[.pointer p] 129)
  have G0 := aside (blk_on (blk_on (heap_alloc_new w (.cells #[.int .i64 I] 3)) b1) b2)
  have g1 := blk_on (heap_alloc_new (w.alloc (.cells #[.int .i64 I] 3)) (.cells #[.int .i64 K] 3)) b2
  have g2 := heap_alloc_new ((w.alloc (.cells #[.int .i64 I] 3)).alloc (.cells #[.int .i64 K] 3)) (.cells #[.pointer p] 129)
  simp only [World.size_alloc] at g1 g2
  have G1 := aside g1
  have G2 := aside g2
  have B := aside (bthen (bthen b0 b1) b2)
  have ht' : TObjE ((w.alloc (.cells #[.int .i64 I] 3)).alloc (.cells #[.int .i64 K] 3)) tb jv p := blk_on (blk_on ht b0) b1
  obtain ⟨-, -, -, -, r0, -⟩ := tobjE ht'
  clear ht ht' g1 g2 b0 b1 b2
  go_enter Tryd.func40, Tryd.ntmps40
  go_wp2
  go_ret
  exact ⟨_, rfl, ⟨_, _, _, rfl, G2.out, G0.out, G1.out⟩, B.out⟩
/-- The rows that such an iterator hands out. -/
def spanL (T : Tr En Tl) (I K : Int) : List (Rw En Tl) := seg T.rows (max I 0).toNat (min K (T.cnt : Int)).toNat
theorem max_if (I : Int) : (if I < 0 then 0 else I) = max I 0 := by omega
theorem min_if (K c : Int) : (if c < K then c else K) = min K c := by omega
set_option maxHeartbeats 6400000 in
set_option maxRecDepth 100000 in
theorem span0 {w : World} {p : Option Addr} {T : Tr En Tl} {I K : Int} {lb : Array Value} {Ok : Rw En Tl → Prop} (h : SpanV w lb p I K) (hT : IsTE w p T) (hc : T.cnt ≤ 4611686018427387904) (hok : ∀ x ∈ T.rows, Ok x) (hK : -4611686018427387904 ≤ K) {N : Nat} (hN : (spanL T I K).length ≤ N) {Kp : World → World → Prop} (hKp : ∀ A B, Kp A B → Stay 135 A B)
    (m l : Nat) (J Jx : List (Rw En Tl) → World → Prop) (W : World) (hW : Below w.heap.size w W) (hd : ∀ s W, J s W → J s W.drew) (hY : YOk Ok l m N Kp J Jx) (h0 : J [] W) :
    Calls Tryd.prog 71 (#[.func (.yield l) #[] #[]] ++ lb) W fun e W' => (∃ v, e = .returned v) ∧ ((∃ xs, xs = spanL T I K ∧ J xs W') ∨ (∃ pre, pre <+: spanL T I K ∧ Jx pre W')) := by
  have h' := h.below hW
  obtain ⟨rb, ib, jb, rfl, g0, g1, g2⟩ := h'
  have hT' : IsTE W p T := hT.on (fun _ _ e => blk_on e hW)
  have CW := aside (walkE hKp hd hY T hc hok (max I 0) (min K (T.cnt : Int)) p [] W.drew (hT'.on (Stay.refl _ _).drew) (by omega) (by omega) (hd _ _ h0) (by
    have e1 : (spanL T I K).length = (min K (T.cnt : Int)).toNat - (max I 0).toNat := by
      unfold spanL seg
      have := Tr.rows_length T
      simp only [List.length_drop, List.length_take]
      omega
    simp only [List.length_nil]
    omega) (by omega))
  have CR := aside (rowsE (hT'.on (Stay.refl _ W).drew))
  rw [show seg T.rows (max I 0).toNat (min K (T.cnt : Int)).toNat = spanL T I K from rfl] at CW
  generalize spanL T I K = sg at *
  have HS := aside (show W.cell? ⟨rb, 0, none⟩ = some (.pointer p) ∧ W.cell? ⟨ib, 0, none⟩ = some (.int .i64 I) ∧ W.cell? ⟨jb, 0, none⟩ = some (.int .i64 K) from ⟨cell_one g0, cell_one g1, cell_one g2⟩)
  obtain ⟨c, hcc⟩ : ∃ c : Int, (T.cnt : Int) = c := ⟨_, rfl⟩
  rw [hcc] at CW CR
  obtain ⟨a, ha⟩ : ∃ a : Int, max I 0 = a := ⟨_, rfl⟩
  obtain ⟨b, hb⟩ : ∃ b : Int, min K c = b := ⟨_, rfl⟩
  rw [ha, hb] at CW
  have HA := aside ((max_if I).trans ha)
  have HB := aside ((min_if K c).trans hb)
  clear h hT hT' g0 g1 g2 hY h0 hd hcc ha hb hc hK hN hW hok
  show Calls Tryd.prog 71 #[.func (.yield l) #[] #[], .pointer (some ⟨rb, 0, none⟩), .pointer (some ⟨ib, 0, none⟩), .pointer (some ⟨jb, 0, none⟩)] W _
  go_enter Tryd.func71, Tryd.ntmps71
  go_wp2_with fail
  refine wp_region_until (z := 8) (S := fun X => X.cell? ⟨rb, 0, none⟩ = some (.pointer p) ∧ X.cell? ⟨ib, 0, none⟩ = some (.int .i64 I) ∧ X.cell? ⟨jb, 0, none⟩ = some (.int .i64 K)) (by kernel_rfl) HS.out (fun hHeld => ?_)
  refine Until.take (i := 0) (v := ?_) [8] rfl (by kernel_rfl) (by kernel_rfl) (by kernel_rfl) (by kernel_rfl) (by rfl) (by rfl) (by kernel_rfl) (fun _ _ _ h => h) (Or.inl ⟨by rfl, ?_⟩) (by assumption) ?_
  rotate_left
  · intro w hSw
    go_simp
    try with_reducible rfl
  simp only [Act.put, List.getElem_toArray, List.getElem_cons_zero, List.setIfInBounds_toArray, List.set_cons_zero, List.set_cons_succ]
  refine Until.take (i := 1) (v := ?_) [2, 8] rfl (by kernel_rfl) (by kernel_rfl) (by kernel_rfl) (by kernel_rfl) (by rfl) (by rfl) (by kernel_rfl) (fun _ _ _ h => h) (Or.inl ⟨by rfl, ?_⟩) (by assumption) ?_
  rotate_left
  · intro w hSw
    go_simp
    try with_reducible rfl
  simp only [Act.put, List.getElem_toArray, List.getElem_cons_zero, List.getElem_cons_succ, List.setIfInBounds_toArray, List.set_cons_zero, List.set_cons_succ]
  refine Until.take (i := 2) (v := ?_) [8] rfl (by kernel_rfl) (by kernel_rfl) (by kernel_rfl) (by kernel_rfl) (by rfl) (by rfl) (by kernel_rfl) (fun _ _ _ h => h) (Or.inl ⟨by rfl, ?_⟩) (by assumption) ?_
  rotate_left
  · intro w hSw
    go_simp
    try with_reducible rfl
  simp only [Act.put, List.getElem_toArray, List.getElem_cons_zero, List.getElem_cons_succ, List.setIfInBounds_toArray, List.set_cons_zero, List.set_cons_succ]
  rw [HA.out]
  refine Until.take (i := 3) (v := ?_) [6, 8] rfl (by kernel_rfl) (by kernel_rfl) (by kernel_rfl) (by kernel_rfl) (by rfl) (by rfl) (by kernel_rfl) (fun _ _ _ h => h) (Or.inl ⟨by rfl, ?_⟩) (by assumption) ?_
  rotate_left
  · intro w hSw
    go_simp
    try with_reducible rfl
  simp only [Act.put, List.getElem_toArray, List.getElem_cons_zero, List.getElem_cons_succ, List.setIfInBounds_toArray, List.set_cons_zero, List.set_cons_succ]
  refine Until.take (i := 4) (v := ?_) [5, 6, 8] rfl (by kernel_rfl) (by kernel_rfl) (by kernel_rfl) (by kernel_rfl) (by rfl) (by rfl) (by kernel_rfl) (fun _ _ _ h => h) (Or.inl ⟨by rfl, ?_⟩) (by assumption) ?_
  rotate_left
  · intro w hSw
    go_simp
    try with_reducible rfl
  simp only [Act.put, List.getElem_toArray, List.getElem_cons_zero, List.getElem_cons_succ, List.setIfInBounds_toArray, List.set_cons_zero, List.set_cons_succ]
  refine Until.takeY (i := 7) (v := ?_) rfl (by kernel_rfl) (by kernel_rfl) (by kernel_rfl) (by rfl) (fun _ _ _ h => h) (Or.inl ⟨by rfl, ?_⟩) (by assumption) ?_
  rotate_left
  · intro w hSw
    go_simp
    try with_reducible rfl
  simp only [Act.put, List.getElem_toArray, List.getElem_cons_zero, List.getElem_cons_succ, List.setIfInBounds_toArray, List.set_cons_zero, List.set_cons_succ]
  refine Until.step (i := 5) (by kernel_rfl) rfl (by rfl) (fun K' hK' => ?_)
  go_simp
  refine CR.out.mono ?_
  rintro e w9 ⟨rfl, rfl⟩
  refine hK'.out _ _ hHeld (fun hHeld => ?_)
  clear hK' K'
  refine Until.take (i := 6) (v := ?_) [8] rfl (by kernel_rfl) (by kernel_rfl) (by kernel_rfl) (by kernel_rfl) (by rfl) (by rfl) (by kernel_rfl) (fun _ _ _ h => h) (Or.inl ⟨by rfl, ?_⟩) (by assumption) ?_
  rotate_left
  · intro w hSw
    go_simp
    try with_reducible rfl
  simp only [Act.put, List.getElem_toArray, List.getElem_cons_zero, List.getElem_cons_succ, List.setIfInBounds_toArray, List.set_cons_zero, List.set_cons_succ]
  rw [HB.out]
  refine Until.last (by kernel_rfl) rfl (fun K' hK' => ?_)
  go_simp
  refine CW.out.mono ?_
  rintro e w8 (⟨rfl, h1, h2⟩ | ⟨rfl, q, h1, h2⟩)
  · refine hK'.out _ _ ?_
    clear hK' K'
    refine wpAny_of_held (S := fun _ => True) _ _ _ _ ?_
    refine wpAnyH_done (by kernel_rfl) ?_ _
    have H1 := aside h1
    clear h1 h2
    go_wp2
    go_end0
    exact ⟨⟨_, rfl⟩, .inl ⟨_, rfl, by have h9 := H1.out; simpa using h9⟩⟩
  · refine hK'.out _ _ ?_
    clear hK' K'
    refine wpAny_of_held (S := fun _ => True) _ _ _ _ ?_
    refine wpAnyH_done (by kernel_rfl) ?_ _
    have H1 := aside h1
    have H2 := aside h2
    clear h1 h2
    go_wp2
    go_end0
    exact ⟨⟨_, rfl⟩, .inr ⟨q, by have h9 := H1.out; simpa using h9, H2.out⟩⟩
theorem span1 {w : World} {p : Option Addr} {T : Tr En Tl} {I K : Int} {lb : Array Value} (h : SpanV w lb p I K) (hT : IsTE w p T) (hc : T.cnt ≤ 4611686018427387904) (hK : -4611686018427387904 ≤ K) {n N : Nat} (hN : (spanL T I K).length ≤ N) {Kp : World → World → Prop} (hKp : ∀ A B, Kp A B → Stay 135 A B) :
    SeqStopsK Fence.wide n Tryd.prog 71 lb encs2 Kp (fun ys => ys = spanL T I K) (fun q => q <+: spanL T I K) N w := by
  intro l J Jx W hW hJ hJx hY h0
  have hd : ∀ s W, J s W → J s W.drew := fun s W1 hs => hJ s W1 W1.drew none hs ⟨rfl, rfl, rfl, Nat.le_refl _, fun _ _ _ => rfl⟩ (fun r e => by cases e)
  exact callsIn_wide.2 (span0 (Ok := fun _ => True) h hT hc (fun _ _ => trivial) hK hN hKp _ l J Jx W hW hd (fun pre x W1 _ hp hl => hY pre x W1 hp hl) h0)
end Go.Proofs.YtoflalflacopdaaDoor
namespace Go.Proofs.YtoflalflacopdaaDoor
open Go.RowKit Go.Shelf
set_option linter.unusedVariables false
attribute [local go_sem] Oper.semAt_some
/-- An entry, as it is handed out. -/
def encE (x : En) : Array Value := #[.agg #[.string x.k, .int .i64 x.c, .int .i64 x.n, .string x.v, .bool x.d]]
/-- What a round over such an iterator keeps: nodes, yields and bools that lay there. -/
def KpT (A B : World) : Prop := Stay 135 A B ∧ Stay 121 A B ∧ Stay 4 A B
theorem KpT.refl (A : World) : KpT A A := ⟨Stay.refl _ _, Stay.refl _ _, Stay.refl _ _⟩
theorem KpT.t {A B C : World} (h : KpT A B) (h2 : KpT B C) : KpT A C := ⟨h.1.trans h2.1, h.2.1.trans h2.2.1, h.2.2.trans h2.2.2⟩
theorem KpT.alloc {A B : World} (h : KpT A B) (o : Obj) : KpT A (B.alloc o) := ⟨h.1.alloc o, h.2.1.alloc o, h.2.2.alloc o⟩
theorem KpT.b (W : World) (l : Nat) (o o' : Obj) (h : W.heap[l]? = some o) (ho : o.isCells = false) : KpT W (W.putObj l o') := by
  have s : ∀ T, Stay T W (W.putObj l o') := fun T i cs e => by
    by_cases hi : i = l
    · subst hi; rw [h] at e; injection e with e; subst e; cases ho
    · exact (World.putObj_heap_other hi).trans e
  exact ⟨s _, s _, s _⟩
/-- The entries of rows; dead ones only if they are wanted. -/
def entsOf (dd : Bool) (l : List (Rw En Tl)) : List En := (l.map (·.v)).filter (fun e => dd || !e.d)
theorem entsOf_snoc (dd : Bool) (l : List (Rw En Tl)) (x : Rw En Tl) : entsOf dd (l ++ [x]) = entsOf dd l ++ (if dd || !x.v.d then [x.v] else []) := by
  unfold entsOf
  rw [List.map_append, List.filter_append]
  congr 1
  simp only [List.map_cons, List.map_nil]
  cases h : (dd || !x.v.d)
  · rw [List.filter_cons_of_neg (by simpa using h)]; simp
  · rw [List.filter_cons_of_pos (by simpa using h)]; simp
theorem entsOf_prefix {dd : Bool} {l m : List (Rw En Tl)} (h : l <+: m) : entsOf dd l <+: entsOf dd m := by
  obtain ⟨r, rfl⟩ := h
  unfold entsOf
  rw [List.map_append, List.filter_append]
  exact List.prefix_append _ _
theorem entsOf_length (dd : Bool) (l : List (Rw En Tl)) : (entsOf dd l).length ≤ l.length := by
  unfold entsOf
  exact Nat.le_trans (List.length_filter_le _ _) (by simp)
set_option maxHeartbeats 8000000 in
set_option maxRecDepth 100000 in
theorem thru1 {w : World} {hb db : Nat} {dd : Bool} {lbS : Array Value} {sg : List (Rw En Tl)} (hh : w.heap[hb]? = some (.cells #[.func (.func 71) #[] lbS] 99 (0, 0))) (hd : w.heap[db]? = some (.cells #[.bool dd] 4 (0, 0)))
    (hs : SeqO Tryd.prog 71 lbS encs2 KpT (fun ys => ys = sg) (fun q => q <+: sg) sg.length w) :
    SeqO Tryd.prog 70 #[.pointer (some ⟨hb, 0, none⟩), .pointer (some ⟨db, 0, none⟩)] encE KpT (fun ys => ys = entsOf dd sg) (fun q => q <+: entsOf dd sg) sg.length w := by
  intro m l J Jx W hW hJ hJx hY h0
  have hh' := blk_on hh hW
  have hd' := blk_on hd hW
  have b1 := bnew W (.cells #[.func (.yield l) #[] #[]] 121)
  have yb := heap_alloc_new W (.cells #[.func (.yield l) #[] #[]] 121)
  have c0 := cell_one (blk_on hh' b1)
  have BW := aside (bthen hW b1)
  have J0 := aside (hJ.alloc (.cells #[.func (.yield l) #[] #[]] 121) h0)
  have YV := aside yb
  have DV := aside (blk_on hd' b1)
  have HY := aside hY
  have HS := aside hs
  clear hh hd hs hh' hd' b1 yb hY h0
  refine (callsIn_wide (n := m + 3)).1 ?_
  refine callsIn_of_wp_marks Tryd.func70 rfl trivial ?_ rfl
  simp only [Tryd.ntmps70, List.size_toArray, List.length_cons, List.length_nil, Nat.reduceAdd, Nat.reduceSub, Array.replicate_succ, Array.replicate_zero, List.push_toArray, List.append_toArray, List.nil_append, List.cons_append]
  gi_wp2_with fail
  refine wpIn_wide.2 (wp_scope_straight ((wpIn_wide (n := m + 3)).1 ?_))
  refine wpIn_seq (wpIn_label ?_)
  gi_wp2_with fail
  have VS := aside (show W.heap.size + 1 = (W.alloc (.cells #[.func (.yield l) #[] #[]] 121)).heap.size from by simp)
  have HJ := aside hJ
  have HJx := aside hJx
  clear c0 hJ hJx hW
  generalize W.alloc (.cells #[.func (.yield l) #[] #[]] 121) = V at *
  have ownI : OwnFrom V.heap.size (fun (pre : List (Rw En Tl)) X => J (entsOf dd pre) X ∧ X.heap[W.heap.size]? = some (.cells #[.func (.yield l) #[] #[]] 121 (0, 0)) ∧ X.heap[db]? = some (.cells #[.bool dd] 4 (0, 0))) := fun s A B row hs hg hr =>
    have hr' : ∀ r, row = some r → ∃ o : Obj, A.heap[r]? = some o ∧ o.isCells = false := fun r e => (hr r e).2
    ⟨HJ.out _ A B row hs.1 hg (fun r e => ⟨by have := (hr r e).1; have := VS.out; omega, (hr r e).2⟩), cells_own hs.2.1 hg hr', cells_own hs.2.2 hg hr'⟩
  refine rangeO rfl (enters_of Tryd.func71 (by kernel_rfl) rfl) HS.out KpT.t (fun W l o o' _ h ho => KpT.b W l o o' h ho) BW.out (fun _ => rfl)
    (fun (pre : List (Rw En Tl)) X => J (entsOf dd pre) X ∧ X.heap[W.heap.size]? = some (.cells #[.func (.yield l) #[] #[]] 121 (0, 0)) ∧ X.heap[db]? = some (.cells #[.bool dd] 4 (0, 0)))
    (fun c pre X => c = .ret ∧ Jx (entsOf dd pre) X) ownI (fun c s A B row hs hg hr => ⟨hs.1, HJx.out _ A B row hs.2 hg (fun r e => ⟨by have := (hr r e).1; have := VS.out; omega, (hr r e).2⟩)⟩) ⟨J0.out, YV.out, DV.out⟩
    (fun x a' X => ∃ eb : Nat, a' = ⟨#[.func (.yield l) #[] #[], .pointer (some ⟨hb, 0, none⟩), .pointer (some ⟨db, 0, none⟩), .pointer (some ⟨W.heap.size, 0, none⟩), undef, .pointer (some ⟨eb, 0, none⟩), .func (.func 71) #[] lbS, .string x.k, .agg #[.string x.v.k, .int .i64 x.v.c, .int .i64 x.v.n, .string x.v.v, .bool x.v.d], undef, undef, undef, undef, undef, undef, undef, undef, undef, undef, undef, undef], []⟩ ∧ X.heap[eb]? = some (.cells #[.string x.v.k, .int .i64 x.v.c, .int .i64 x.v.n, .string x.v.v, .bool x.v.d] 33 (0, 0)))
    (fun x a' _ A B row hs hg hr => by
      obtain ⟨eb, h1, h2⟩ := hs
      exact ⟨eb, h1, cells_own h2 hg (fun r e => (hr r e).2)⟩) ?assign ?body ?done ?stop
  case assign =>
    intro l' pre x X K hi hK
    dsimp only [encs2]
    gi_wp2
    refine hK _ _ ?_ ?_ ?_ ⟨_, rfl, heap_alloc_new X _⟩
    · exact KeepsFrom.of_grownBy (World.grownBy_alloc X _ none) (fun j e => by cases e)
    · exact (KpT.refl X).alloc _
    · exact ownI.alloc _ hi
  case body =>
    rintro l' pre ⟨xk, ⟨vk, vc, vn, vv, vd⟩, xs⟩ a' X ⟨hj, hy, hd⟩ ⟨eb, rfl, he⟩ hlen
    dsimp only at he ⊢
    obtain ⟨e0, e1, e2, e3, e4, -⟩ := penta he
    have D0 := cell_one hd
    have Y0 := cell_one hy
    have HX := aside (show J (entsOf dd pre) X ∧ X.heap[W.heap.size]? = some (.cells #[.func (.yield l) #[] #[]] 121 (0, 0)) ∧ X.heap[db]? = some (.cells #[.bool dd] 4 (0, 0)) from ⟨hj, hy, hd⟩)
    have HLN := aside hlen
    have hsn := aside (entsOf_snoc dd pre ⟨xk, ⟨vk, vc, vn, vv, vd⟩, xs⟩)
    clear hj hy hd he hlen
    cases vd with
    | false =>
      rw [show (if dd || !(⟨xk, ⟨vk, vc, vn, vv, false⟩, xs⟩ : Rw En Tl).v.d then [(⟨xk, ⟨vk, vc, vn, vv, false⟩, xs⟩ : Rw En Tl).v] else []) = [⟨vk, vc, vn, vv, false⟩] from by simp] at hsn
      obtain ⟨fn, tmps, assign, body, hy, hR⟩ := HY.out (entsOf dd pre) ⟨vk, vc, vn, vv, false⟩ X HX.out.1 (Nat.lt_of_le_of_lt (entsOf_length _ _) HLN.out)
      dsimp only [encE] at hy
      have HR := aside hR
      clear hR
      gi_wp2_with fail
      refine HR.out.mono ?_
      rintro e X3 ⟨kf, ⟨rfl, hj3, kp3⟩ | ⟨rfl, hx3⟩⟩
      · have KF := aside (keepsFrom_up kf (show W.heap.size ≤ V.heap.size from by have := VS.out; omega))
        have KP := aside kp3
        have J3 := aside hj3
        clear kf kp3 hj3 hy
        gi_wp2
        exact ⟨KF.out, KP.out, by rw [hsn.out]; exact J3.out, KP.out.2.1 _ _ HX.out.2.1, KP.out.2.2 _ _ HX.out.2.2⟩
      · have KF := aside (keepsFrom_up kf (show W.heap.size ≤ V.heap.size from by have := VS.out; omega))
        have X3' := aside hx3
        clear kf hx3 hy
        gi_wp2
        exact ⟨KF.out, rfl, by rw [hsn.out]; exact X3'.out⟩
    | true =>
      cases dd with
      | true =>
        obtain ⟨fn, tmps, assign, body, hy, hR⟩ := HY.out (entsOf true pre) ⟨vk, vc, vn, vv, true⟩ X HX.out.1 (Nat.lt_of_le_of_lt (entsOf_length _ _) HLN.out)
        dsimp only [encE] at hy
        have HR := aside hR
        clear hR
        gi_wp2_with fail
        refine HR.out.mono ?_
        rintro e X3 ⟨kf, ⟨rfl, hj3, kp3⟩ | ⟨rfl, hx3⟩⟩
        · have KF := aside (keepsFrom_up kf (show W.heap.size ≤ V.heap.size from by have := VS.out; omega))
          have KP := aside kp3
          have J3 := aside hj3
          clear kf kp3 hj3 hy
          gi_wp2
          exact ⟨KF.out, KP.out, by rw [hsn.out]; exact J3.out, KP.out.2.1 _ _ HX.out.2.1, KP.out.2.2 _ _ HX.out.2.2⟩
        · have KF := aside (keepsFrom_up kf (show W.heap.size ≤ V.heap.size from by have := VS.out; omega))
          have X3' := aside hx3
          clear kf hx3 hy
          gi_wp2
          exact ⟨KF.out, rfl, by rw [hsn.out]; exact X3'.out⟩
      | false =>
        gi_wp2
        exact ⟨KeepsFrom.refl _ _, KpT.refl _, by rw [hsn.out]; simpa using HX.out.1, HX.out.2.1, HX.out.2.2⟩
  case done =>
    rintro D xs X hD rfl ⟨hj, hy, hd⟩ hK
    have FIN := aside (HJ.out.putObj (.deferred none) hj (by have := VS.out; omega) hK rfl)
    clear hj hy hd
    gi_wp2
    refine ⟨by simp, .inl ⟨_, _, rfl, run_takeDeferred hK, ?_⟩⟩
    exact ⟨_, results_none rfl _ _ _, ⟨_, rfl⟩, .inl ⟨_, rfl, FIN.out⟩⟩
  case stop =>
    rintro D c pre X hD hp ⟨rfl, hj⟩ hK
    have FIN := aside (HJx.out.putObj (.deferred none) hj (by have := VS.out; omega) hK rfl)
    clear hj
    gi_wp2
    refine ⟨by simp, .inl ⟨_, _, rfl, run_takeDeferred hK, ?_⟩⟩
    exact ⟨_, results_none rfl _ _ _, ⟨_, rfl⟩, .inr ⟨_, entsOf_prefix hp, FIN.out⟩⟩
end Go.Proofs.YtoflalflacopdaaDoor
namespace Go.Proofs.YtoflalflacopdaaDoor
open Go.RowKit Go.Shelf
set_option linter.unusedVariables false
attribute [local go_sem] Oper.semAt_some
/-- An iterator over the entries es. -/
def SeqE (w : World) (lb : Array Value) (es : List En) : Prop := ∃ N, N ≤ 1000000 ∧ es.length ≤ N ∧ SeqO Tryd.prog 70 lb encE KpT (fun ys => ys = es) (fun q => q <+: es) N w
theorem SeqE.below {w w' : World} {lb : Array Value} {es : List En} (h : SeqE w lb es) (b : Below w.heap.size w w') : SeqE w' lb es := by
  obtain ⟨N, h1, h2, h3⟩ := h
  exact ⟨N, h1, h2, h3.of_below b⟩
/-- What is gone through: what is in the range, dead ones only if they are wanted. -/
def thruL (lo hi : ByteArray) (op dd : Bool) (Ls : List En) : List En := (Ls.filter (inR lo hi op)).filter (fun e => dd || !e.d)
theorem rows_thru {T : Tr En Tl} {Ls : List En} {lo hi : ByteArray} {op : Bool} (hH : Hol T Ls) (h : op = true ∨ kLt hi lo = false) (dd : Bool) : entsOf dd (spanL T (belE lo Ls : Int) (endE hi op Ls : Int)) = thruL lo hi op dd Ls := by
  unfold spanL entsOf thruL
  have h1 := belE_le lo Ls
  have h2 := endE_le hi op Ls
  rw [show (max (belE lo Ls : Int) 0).toNat = belE lo Ls from by omega, show (min (endE hi op Ls : Int) (T.cnt : Int)).toNat = endE hi op Ls from by rw [hH.cnt]; omega, hH.rows, seg_map, seg_range hH.rises h, List.map_map]
  congr 1
  exact List.map_id _
set_option maxHeartbeats 3200000 in
set_option maxRecDepth 100000 in
theorem sthru (lo hi : ByteArray) (op dd : Bool) {Ls : List En} {w : World} {sb g tb : Nat} {nd ck : Int} {T : Tr En Tl} {n : Nat} (h : IsSt w sb g tb nd ck T n) (hH : Hol T Ls) (hl : Ls.length ≤ 1000000) :
    Calls Tryd.prog 39 #[.pointer (some ⟨sb, 0, none⟩), .agg #[.string lo, .string hi, .bool op], .bool dd] w fun r w' => Below w.heap.size w w' ∧ ((Rg.chk ⟨lo, hi, op⟩ ≠ 0 ∧ r = .returned (.tuple #[.nilFunc, .int .i64 (Rg.chk ⟨lo, hi, op⟩)])) ∨ (Rg.chk ⟨lo, hi, op⟩ = 0 ∧ ∃ lb, r = .returned (.tuple #[.func (.func 70) #[] lb, .int .i64 0]) ∧ SeqE w' lb (thruL lo hi op dd Ls))) := by
  have hmf : ∀ (fn : Fn) (first cap : Array Value) (w : World), (Instr.makeFunc fn first cap).run Tryd.prog w = .ok (.func fn first cap) w := fun _ _ _ _ => rfl
  have b0 := bnew w (.cells #[.string lo, .string hi, .bool op] 24)
  have b1 := bnew (w.alloc (.cells #[.string lo, .string hi, .bool op] 24)) (.cells #[.bool dd] 4)
  have B := aside (bthen b0 b1)
  have G0 := aside (blk_on (heap_alloc_new w (.cells #[.string lo, .string hi, .bool op] 24)) b1)
  have g1 := heap_alloc_new (w.alloc (.cells #[.string lo, .string hi, .bool op] 24)) (.cells #[.bool dd] 4)
  simp only [World.size_alloc] at g1
  have G1 := aside g1
  have H := aside (h.below B.out)
  have C1 := aside (fun (W : World) => check_any lo hi op W)
  have CR := aside (fun (W : World) (h : IsSt W sb g tb nd ck T n) => srows lo hi op h hH hl)
  have HH := aside hH
  have HLE := aside hl
  obtain ⟨c, hc⟩ : ∃ c, Rg.chk ⟨lo, hi, op⟩ = c := ⟨_, rfl⟩
  rw [hc] at C1 ⊢
  have HC := aside hc
  clear h hH hl b0 b1 g1 hc
  obtain ⟨q0, q1, q2, -⟩ := tri G0.out
  by_cases h0 : c = 0
  · subst h0
    go_enter Tryd.func39, Tryd.ntmps39
    go_wp2_with fail
    refine (C1.out _).mono ?_
    rintro e w1 ⟨rfl, b1⟩
    have H1 := aside (H.out.below b1)
    have G1' := aside (blk_on G1.out b1)
    have B1 := aside (bthen B.out b1)
    obtain ⟨r0, r1, r2, -⟩ := tri (blk_on G0.out b1)
    clear b1 H G1 G0 B C1 q0 q1 q2
    go_wp2_with fail
    refine (CR.out _ H1.out).mono ?_
    rintro e w2 ⟨rfl, b2⟩
    have H2 := aside (H1.out.below b2)
    have G2 := aside (blk_on G1'.out b2)
    have B2 := aside (bthen B1.out b2)
    obtain ⟨-, -, -, c3, -⟩ := quad H2.out.blk
    clear b2 H1 G1' B1 CR r0 r1 r2
    go_wp2_with fail
    obtain ⟨p, ht, hT⟩ := H2.out.tree
    have HT := aside hT
    have CS := aside (yspan (belE lo Ls : Int) (endE hi op Ls : Int) ht)
    clear ht hT
    refine CS.out.mono ?_
    rintro e w3 ⟨lbS, rfl, hs, b3⟩
    have HS := aside hs
    have B3 := aside b3
    clear hs b3 CS c3
    go_wp2
    go_ret2
    have b4 := bnew w3 (.cells #[.func (.func 71) #[] lbS] 99)
    have hcn := HH.out.cnt
    have hT3 : IsTE w3 p T := HT.out.on (fun _ _ e => blk_on e B3.out)
    have hle := HLE.out
    have hsp : (spanL T (belE lo Ls : Int) (endE hi op Ls : Int)).length ≤ Ls.length := by
      unfold spanL seg
      have := Tr.rows_length T
      simp only [List.length_drop, List.length_take]
      omega
    have hq := thru1 (dd := dd) (hb := w3.heap.size) (db := w.heap.size + 1) (sg := spanL T (belE lo Ls : Int) (endE hi op Ls : Int)) (heap_alloc_new w3 (.cells #[.func (.func 71) #[] lbS] 99)) (blk_on (blk_on G2.out B3.out) b4)
      (SeqO.of_stops fun n => span1 (HS.out.below b4) (hT3.on (fun _ _ e => blk_on e b4)) (by omega) (by omega) (Nat.le_refl _) (fun A B h => h.1))
    rw [rows_thru HH.out (chk_may HC.out) dd] at hq
    refine ⟨bthen (bthen B2.out B3.out) b4, .inr ⟨by simp, _, rfl, (spanL T (belE lo Ls : Int) (endE hi op Ls : Int)).length, by omega, ?_, hq⟩⟩
    rw [← rows_thru HH.out (chk_may HC.out) dd]
    exact entsOf_length _ _
  · have h0' : (c == 0) = false := beq_eq_false_iff_ne.2 h0
    have HN := aside h0
    clear h0
    go_enter Tryd.func39, Tryd.ntmps39
    go_wp2_with fail
    refine (C1.out _).mono ?_
    rintro e w1 ⟨rfl, b1⟩
    have B1 := aside (bthen B.out b1)
    clear b1 H G1 G0 B C1 q0 q1 q2
    go_wp2
    go_ret2
    exact ⟨B1.out, .inl ⟨HN.out, rfl⟩⟩
set_option maxHeartbeats 3200000 in
set_option maxRecDepth 100000 in
theorem sall (lo hi : ByteArray) (op : Bool) {Ls : List En} {w : World} {sb g tb : Nat} {nd ck : Int} {T : Tr En Tl} {n : Nat} (h : IsSt w sb g tb nd ck T n) (hH : Hol T Ls) (hl : Ls.length ≤ 1000000) :
    Calls Tryd.prog 9 #[.pointer (some ⟨sb, 0, none⟩), .agg #[.string lo, .string hi, .bool op]] w fun r w' => Below w.heap.size w w' ∧ ((Rg.chk ⟨lo, hi, op⟩ ≠ 0 ∧ r = .returned (.tuple #[.nilFunc, .int .i64 (Rg.chk ⟨lo, hi, op⟩)])) ∨ (Rg.chk ⟨lo, hi, op⟩ = 0 ∧ ∃ lb, r = .returned (.tuple #[.func (.func 70) #[] lb, .int .i64 0]) ∧ SeqE w' lb (thruL lo hi op true Ls))) := by
  have b0 := bnew w (.cells #[.string lo, .string hi, .bool op] 24)
  have C := aside (sthru lo hi op true (h.below b0) hH hl)
  have B := aside b0
  obtain ⟨q0, q1, q2, -⟩ := tri (heap_alloc_new w (.cells #[.string lo, .string hi, .bool op] 24))
  clear h hH hl b0
  go_enter Tryd.func9, Tryd.ntmps9
  go_wp2_with fail
  refine C.out.mono ?_
  rintro r w1 ⟨b1, ⟨hc, rfl⟩ | ⟨hc, lb, rfl, hs⟩⟩
  · have B1 := aside (bthen B.out b1)
    have HC := aside hc
    clear b1 hc C q0 q1 q2
    go_wp2
    go_ret2
    exact ⟨B1.out, .inl ⟨HC.out, rfl⟩⟩
  · have B1 := aside (bthen B.out b1)
    have HC := aside hc
    have HS := aside hs
    clear b1 hc hs C q0 q1 q2
    go_wp2
    go_ret2
    exact ⟨B1.out, .inr ⟨HC.out, _, rfl, HS.out⟩⟩
theorem qall (lo hi : ByteArray) (op : Bool) {w : World} {sb g tb : Nat} {nd ck : Int} {Ls : List En} (h : Sto w sb g tb nd ck Ls) (hl : Ls.length ≤ 1000000) :
    Calls Tryd.prog 9 #[.pointer (some ⟨sb, 0, none⟩), .agg #[.string lo, .string hi, .bool op]] w fun r w' => Below w.heap.size w w' ∧ ((Rg.chk ⟨lo, hi, op⟩ ≠ 0 ∧ r = .returned (.tuple #[.nilFunc, .int .i64 (Rg.chk ⟨lo, hi, op⟩)])) ∨ (Rg.chk ⟨lo, hi, op⟩ = 0 ∧ ∃ lb, r = .returned (.tuple #[.func (.func 70) #[] lb, .int .i64 0]) ∧ SeqE w' lb (thruL lo hi op true Ls))) := by
  obtain ⟨T, n, h1, h2⟩ := h
  exact sall lo hi op h1 h2 hl
end Go.Proofs.YtoflalflacopdaaDoor
namespace Go.Proofs.YtoflalflacopdaaDoor
open Go.RowKit
set_option linter.unusedVariables false
/-- What a range holds, by the document and by the code. -/
theorem inL_thru {lo hi : ByteArray} {op : Bool} {l : List En} (h : Rg.chk ⟨lo, hi, op⟩ = 0) (hm : MapL l) : inL ⟨lo, hi, op⟩ l = l.filter (inR lo hi op) := by
  unfold inL
  refine List.filter_congr (fun e he => ?_)
  have h1 := (chk_pos (hm.chk e he)).2.1
  unfold Rg.has inR Rg.may
  simp only [h]
  have h2 : decide ((e.k.size : Int) ≤ 16) = true := by simp; omega
  rw [h2]
  rfl
end Go.Proofs.YtoflalflacopdaaDoor
namespace Go.Proofs.YtoflalflacopdaaDoor
open Go.RowKit Go.Shelf
set_option linter.unusedVariables false
attribute [local go_sem] Oper.semAt_some
/-- A list of entries in the variable at vb, its row laid from B on. -/
structure LstE (B : Nat) (vb : Nat) (l : List En) (X : World) : Prop where
  ex : ∃ v, X.heap[vb]? = some (.cells #[v] 22 (0, 0)) ∧ X.ownsRow B 33 5 v l.length (entCells l)
theorem ownsRow_own {A B' : World} {row : Option Nat} {base : Nat} {e : TypeId} {size : Nat} {v : Value} {n : Nat} {xs : List Value} (h : A.ownsRow base e size v n xs) (hg : A.grownBy B' row) (hr : ∀ r, row = some r → ∃ o : Obj, A.heap[r]? = some o ∧ o.isCells = false) : B'.ownsRow base e size v n xs := by
  refine ⟨h.1, ?_⟩
  rcases h.2 with hn | ⟨g, cap, cur, rfl, hb, hgk, r⟩
  · exact .inl hn
  · exact .inr ⟨g, cap, cur, rfl, hb, cells_own hgk hg hr, r⟩
theorem LstE.own {B vb : Nat} {l : List En} {A X : World} {row : Option Nat} (h : LstE B vb l A) (hg : A.grownBy X row) (hr : ∀ r, row = some r → ∃ o : Obj, A.heap[r]? = some o ∧ o.isCells = false) : LstE B vb l X := by
  obtain ⟨v, h1, h2⟩ := h.ex
  exact ⟨v, cells_own h1 hg hr, ownsRow_own h2 hg hr⟩
/-- The block of a row of entries. -/
theorem row_blk {X : World} {B n : Nat} {v : Value} {xs : List Value} (h : X.ownsRow B 33 5 v n xs) {r : Nat} (hr : v.ownBlock = some r) : B ≤ r ∧ ∃ cs, X.heap[r]? = some (.cells cs 33 (0, 0)) := by
  rcases h.2 with ⟨rfl, -⟩ | ⟨g, cap, cur, rfl, hb, hgk, -⟩
  · cases hr
  · cases hr; exact ⟨hb, _, hgk⟩
/-- One entry more. -/
theorem lst_step {w X X1 : World} {vb C : Nat} {l : List En} {x : En} {v v' : Value} {o : Obj} (hB : Below w.heap.size w X) (hvb : w.heap.size ≤ vb) (h1 : X.heap[vb]? = some (.cells #[v] 22 (0, 0))) (h2 : X.ownsRow w.heap.size 33 5 v l.length (entCells l))
    (ho : X1.ownsRow w.heap.size 33 5 v' (l.length + 1) (entCells l ++ entVals x)) (hg : (X.alloc o).grownBy X1 v.ownBlock) :
    X1.heap[vb]? = some (.cells #[v] 22 (0, 0)) ∧ LstE w.heap.size vb (l ++ [x]) (X1.setCell ⟨vb, 0, none⟩ v') ∧ Below w.heap.size w (X1.setCell ⟨vb, 0, none⟩ v') ∧ KeepsFrom C X (X1.setCell ⟨vb, 0, none⟩ v') ∧ KpT X (X1.setCell ⟨vb, 0, none⟩ v') := by
  have hne : some vb ≠ v.ownBlock := fun e => by
    obtain ⟨-, cs, h3⟩ := row_blk h2 e.symm
    rw [h1] at h3; simp at h3
  have hvb1 : X1.heap[vb]? = some (.cells #[v] 22 (0, 0)) := by
    rw [hg.block vb (by have := lt_of_blk h1; simp; omega) hne]
    exact blk_on h1 (bnew _ _)
  have st : ∀ T, T ≠ 33 → T ≠ 22 → Stay T X (X1.setCell ⟨vb, 0, none⟩ v') := fun T n1 n2 => by
    refine (((Stay.refl T X).alloc o).grown hg ?_).setCell _ (fun cs e => by dsimp only at e; rw [hvb1] at e; simp at e; exact n2 e.2.symm)
    intro r e cs hcs
    obtain ⟨-, cs', h3⟩ := row_blk h2 e
    rw [blk_on h3 (bnew _ _)] at hcs
    simp at hcs
    exact n1 hcs.2.symm
  refine ⟨hvb1, ⟨v', by rw [heap_setCell_same X1 vb 0 _ _ v' hvb1]; rfl, ?_⟩, ?_, ?_, st _ (by decide) (by decide), st _ (by decide) (by decide), st _ (by decide) (by decide)⟩
  · rw [List.length_append, entCells_append]
    have hx : entCells [x] = entVals x := by simp [entCells]
    rw [hx]
    refine ownsRow_keep (S := fun i => i = vb) ho ((Keeps.refl (fun i => i = vb) X1).setCell (p := ⟨vb, 0, none⟩) (fun _ => rfl) _) (fun j e1 e2 => ?_)
    subst e2
    obtain ⟨-, cs, h3⟩ := row_blk ho e1
    rw [hvb1] at h3; simp at h3
  · exact (((hB.alloc hB.size o).grown hg (by have := hB.size; simp; omega) (fun j e => (row_blk h2 e).1)).setCell (p := ⟨vb, 0, none⟩) hvb _)
  · have k1 : KeepsFrom C (X.alloc o) X1 := ⟨hg.size, fun i ob _ hi hob => (hg.block i (Array.getElem?_eq_some_iff.1 hi).1 (fun e => by
      obtain ⟨-, cs, h3⟩ := row_blk h2 e.symm
      rw [blk_on h3 (bnew _ _)] at hi
      injection hi with hi
      subst hi
      cases hob)).trans hi⟩
    exact ((KeepsFrom.of_grownBy (World.grownBy_alloc X o none) (fun j e => by cases e)).trans k1).trans ((KeepsOthers.setCell _ _ _).from _)
end Go.Proofs.YtoflalflacopdaaDoor
namespace Go.Proofs.YtoflalflacopdaaDoor
open Go.RowKit Go.Shelf
set_option linter.unusedVariables false
attribute [local go_sem] Oper.semAt_some
end Go.Proofs.YtoflalflacopdaaDoor
namespace Go.Proofs.YtoflalflacopdaaDoor
open Go.RowKit
set_option linter.unusedVariables false
/-- Two names. -/
def Nm.cmp (a l n b m k : Int) : Int := if b < a then 1 else if a < b then -1 else Vs.cmp l n m k
/-- Whether a name may be. -/
def Nm.chk (a l n : Int) : Int := if a < 0 ∨ 8 ≤ a then 110 else if l < 1 ∨ 1048576 < l ∨ n < 1 ∨ 1048576 < n then 111 else 0
end Go.Proofs.YtoflalflacopdaaDoor
namespace Go.Proofs.YtoflalflacopdaaDoor
open Go.RowKit
set_option linter.unusedVariables false
/-- A part: its kind, range, tally, and its entries with the slice that holds them. -/
structure Pm where
  kind : Int
  lo : ByteArray
  hi : ByteArray
  op : Bool
  cnt : Int
  s0 : Int
  s1 : Int
  ea : Option Addr
  el : Nat
  ec : Nat
  T : Nat → En
def Pm.rg (p : Pm) : Rg := ⟨p.lo, p.hi, p.op⟩
/-- Whether it has no fields but its own. -/
def Pm.alone (p : Pm) : Bool := if p.kind = 1 then p.el == 0 else if p.kind = 2 ∨ p.kind = 3 then p.cnt == 0 && (p.s0 == 0 && p.s1 == 0) else false
/-- What is wrong with a tally. -/
def tlChk (c a b : Int) : Int := if c < 0 ∨ 256 < c then 117 else if c = 0 ∧ ¬ (a = 0 ∧ b = 0) then 117 else 0
/-- What is wrong with the entry i of a part. -/
def itAt (r : Rg) (T : Nat → En) (i : Nat) : Int := if (T i).chk ≠ 0 then (T i).chk else if r.has (T i).k = false ∨ (0 < i ∧ kLt (T (i - 1)).k (T i).k = false) then 116 else 0
/-- What is wrong first with n entries of a part. -/
def itN (r : Rg) (T : Nat → En) : Nat → Int
  | 0 => 0
  | n + 1 => if itN r T n ≠ 0 then itN r T n else itAt r T n
/-- What is wrong with the entries of a part. -/
def Pm.its (p : Pm) : Int := if itN p.rg p.T p.el ≠ 0 then itN p.rg p.T p.el else if p.kind = 3 ∧ p.el = 0 then 116 else 0
/-- What is wrong with a part, behind a range. -/
def Pm.chk (p : Pm) (hi : ByteArray) (op : Bool) : Int :=
  if p.alone = false then 114 else if p.rg.chk ≠ 0 then p.rg.chk else if p.rg.emp = true ∨ op = true ∨ kLt p.lo hi = true then 115 else if p.kind = 1 then tlChk p.cnt p.s0 p.s1 else p.its
section
variable {r : Rg} {T : Nat → En}
end
section
variable {P : Nat → Pm}
end
end Go.Proofs.YtoflalflacopdaaDoor
namespace Go.Proofs.YtoflalflacopdaaDoor
open Go.RowKit
set_option linter.unusedVariables false
/-- Its entries are there. -/
def Pm.In (w : World) (p : Pm) : Prop := EntsIn w p.ea p.el p.ec p.T
end Go.Proofs.YtoflalflacopdaaDoor
namespace Go.Proofs.YtoflalflacopdaaDoor
open Go.RowKit
set_option linter.unusedVariables false
end Go.Proofs.YtoflalflacopdaaDoor
namespace Go.Proofs.YtoflalflacopdaaDoor
open Go.RowKit
set_option linter.unusedVariables false
end Go.Proofs.YtoflalflacopdaaDoor
namespace Go.Proofs.YtoflalflacopdaaDoor
open Go.RowKit
set_option linter.unusedVariables false
end Go.Proofs.YtoflalflacopdaaDoor

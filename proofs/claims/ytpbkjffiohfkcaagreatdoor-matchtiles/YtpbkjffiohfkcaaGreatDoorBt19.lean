/-
  The walk over a whole tree; Span.
-/
import Derived.Test.YtpbkjffiohfkcaaGreatDoorBt18
import Derived.Test.YtpbkjffiohfkcaaGreatDoorBt13
import Derived.Test.YtpbkjffiohfkcaaGreatDoorBt2
import Derived.Test.YtpbkjffiohfkcaaGreatDoorBt1
import Derived.Test.YtpbkjffiohfkcaaGreatDoorBt17
import Derived.Test.YtpbkjffiohfkcaaGreatDoorBt15
import Derived.Test.YtpbkjffiohfkcaaGreatDoorBt16
import Derived.Laws.EntriesVeiled
import Derived.OwnWalkIn
import Derived.RangeFuncBox
open List renaming getElem_toArray → gA, getElem_cons_zero → gB, getElem_cons_succ → gC, setIfInBounds_toArray → gD, set_cons_zero → gE, set_cons_succ → gF
namespace Go.Proofs.YtpbkjffiohfkcaaGreatDoor
open Go.RowKit Go.Shelf
set_option linter.unusedVariables false
theorem walkE {Ok : Rw En Tl → Prop} {l m N : Nat} {J Jx : List (Rw En Tl) → World → Prop} {Kp : World → World → Prop} (hKp : ∀ A B, Kp A B → Stay 172 A B) (hd : ∀ s W, J s W → J s W.drew) (hY : YOk Ok l m N Kp J Jx) :
    ∀ T : Tr En Tl, T.cnt ≤ 4611686018427387904 → (∀ x ∈ T.rows, Ok x) → WalkOk l N J Jx T
 | .nil, _, _ => fun I K p pre W hT hI hK hJ hN hK2 => by
  have h : K ≤ I := by simp [Tr.cnt] at hK; omega
  rw [sgI h]
  exact walkNone l J Jx pre I K p W h hJ
 | .node lt k v s rt, hc, hok => fun I K p pre W hT hI hK hJ hN hK2 => by
  by_cases h : K ≤ I
  ·rw [sgI h]
   exact walkNone l J Jx pre I K p W h hJ
  have hcl : lt.cnt ≤ 4611686018427387904 := by simp only [Tr.cnt] at hc; omega
  have hcr : rt.cnt ≤ 4611686018427387904 := by simp only [Tr.cnt] at hc; omega
  have ihl := walkE hKp hd hY lt hcl (fun x hx => hok x (by simp [Tr.rows, hx]))
  have ihr := walkE hKp hd hY rt hcr (fun x hx => hok x (by simp [Tr.rows, hx]))
  obtain ⟨b, lp, rp, rfl, hb, hl, hr⟩ := hT
  have hcn : (Tr.node lt k v s rt).cnt = lt.cnt + 1 + rt.cnt := rfl
  rw [hcn] at hK hc
  have hll := Tr.rows_length lt
  have hrl := Tr.rows_length rt
  have hsg := seg_node lt.rows rt.rows ⟨k, v, s⟩ (i := I.toNat) (j := K.toNat) (by omega)
  have e1 : (Tr.node lt k v s rt).rows = lt.rows ++ ⟨k, v, s⟩ :: rt.rows := rfl
  have hlen : ∀ (R : List (Rw En Tl)) (a c : Nat), (seg R a c).length ≤ c - a := fun R a c => by unfold seg; simp; omega
  rw [e1, hsg]
  by_cases h2 : (lt.cnt : Int) < K
  ·have e2 : min K.toNat lt.rows.length = ((lt.cnt : Int)).toNat := by omega
   rw [e2]
   have L1 := hlen lt.rows I.toNat ((lt.cnt : Int)).toNat
   by_cases h3 : I ≤ (lt.cnt : Int)
   ·rw [if_pos ⟨by omega, by omega⟩, show I.toNat - lt.rows.length - 1 = (0 : Int).toNat from by omega, show K.toNat - lt.rows.length - 1 = (K - (lt.cnt : Int) - 1).toNat from by omega]
    refine walkOwn hKp hd hY hb (rowsE hl) (ihl I (lt.cnt : Int) lp pre W hl hI (by omega) hJ (by omega) (by omega)) (fun W' hs hJ' => ihr 0 (K - (lt.cnt : Int) - 1) rp _ W' (hr.on hs) (by omega) (by omega) hJ' ?_ (by omega)) (by omega) h3 h2 (by rw [IntKind.wrap_i64]; omega) (by rw [IntKind.wrap_i64]; omega) (by rw [IntKind.wrap_i64]; omega) (by rw [IntKind.wrap_i64]; omega) rfl ?_ (hok _ (by simp [Tr.rows]))
    ·simp only [List.length_append, List.length_singleton]; omega
    ·simp only [List.length_append]; omega
   ·rw [if_neg (by omega), show I.toNat - lt.rows.length - 1 = (I - (lt.cnt : Int) - 1).toNat from by omega, show K.toNat - lt.rows.length - 1 = (K - (lt.cnt : Int) - 1).toNat from by omega]
    have L0 : seg lt.rows I.toNat ((lt.cnt : Int)).toNat = [] := seg_none _ (by omega)
    refine walkHigh hKp hd hY hb (rowsE hl) (ihl I (lt.cnt : Int) lp pre W hl hI (by omega) hJ (by omega) (by omega)) (fun W' hs hJ' => ihr (I - (lt.cnt : Int) - 1) (K - (lt.cnt : Int) - 1) rp _ W' (hr.on hs) (by omega) (by omega) hJ' ?_ (by omega)) (by omega) h3 h2 (by rw [IntKind.wrap_i64]; omega) (by rw [IntKind.wrap_i64]; omega) (by rw [IntKind.wrap_i64]; omega) (by rw [IntKind.wrap_i64]; omega) rfl
    rw [L0]; simp only [List.length_append, List.length_nil]; omega
  ·have e2 : min K.toNat lt.rows.length = K.toNat := by omega
   rw [e2, if_neg (by omega), show seg rt.rows (I.toNat - lt.rows.length - 1) (K.toNat - lt.rows.length - 1) = seg rt.rows (0 : Int).toNat (K - (lt.cnt : Int) - 1).toNat from by rw [seg_none _ (by omega), seg_none _ (by omega)]]
   have L1 := hlen lt.rows I.toNat K.toNat
   refine walkLow hKp hd hY hb (rowsE hl) (ihl I K lp pre W hl hI (by omega) hJ (by omega) (by omega)) (fun W' hs hJ' => ihr 0 (K - (lt.cnt : Int) - 1) rp _ W' (hr.on hs) (by omega) (by omega) hJ' ?_ (by omega)) (by omega) (by omega) h2 (by rw [IntKind.wrap_i64]; omega) (by rw [IntKind.wrap_i64]; omega) (by rw [IntKind.wrap_i64]; omega) (by rw [IntKind.wrap_i64]; omega) rfl
   simp only [List.length_append]; omega
end Go.Proofs.YtpbkjffiohfkcaaGreatDoor
namespace Go.Proofs.YtpbkjffiohfkcaaGreatDoor
open Go.RowKit Go.Shelf
set_option linter.unusedVariables false
def SpanV (w : World) (lb : Array Value) (p : Option Addr) (I K : Int) : Prop :=
 ∃ rb ib jb : Nat, lb = #[.pointer (some ⟨rb, 0, none⟩), .pointer (some ⟨ib, 0, none⟩), .pointer (some ⟨jb, 0, none⟩)] ∧ w.heap[rb]? = some (.cells #[.pointer p] 146 (0, 0)) ∧ w.heap[ib]? = some (.cells #[.int .i64 I] 3 (0, 0)) ∧ w.heap[jb]? = some (.cells #[.int .i64 K] 3 (0, 0))
theorem SpanV.below {w w' : World} {lb : Array Value} {p : Option Addr} {I K : Int} (h : SpanV w lb p I K) (b : Below w.heap.size w w') : SpanV w' lb p I K := by
 obtain ⟨rb, ib, jb, h1, h2, h3, h4⟩ := h
 exact ⟨rb, ib, jb, h1, blk_on h2 b, blk_on h3 b, blk_on h4 b⟩
set_option maxHeartbeats 3200000 in
set_option maxRecDepth 100000 in
theorem yspan (I K : Int) {w : World} {tb : Nat} {jv : Value} {p : Option Addr} (ht : TObjE w tb jv p) :
    Calls Tryz.prog 98 #[.pointer (some ⟨tb, 0, none⟩), .int .i64 I, .int .i64 K] w fun e w' => ∃ lb, e = .returned (.func (.func 124) #[] lb) ∧ SpanV w' lb p I K ∧ Below w.heap.size w w' := by
 have hmf : ∀ (fn : Fn) (first cap : Array Value) (w : World), (Instr.makeFunc fn first cap).run Tryz.prog w = .ok (.func fn first cap) w := fun _ _ _ _ => rfl
 have b0 := bnew w (.cells #[.int .i64 I] 3)
 have b1 := bnew (w.alloc (.cells #[.int .i64 I] 3)) (.cells #[.int .i64 K] 3)
 have b2 := bnew ((w.alloc (.cells #[.int .i64 I] 3)).alloc (.cells #[.int .i64 K] 3)) (.cells #[.pointer p] 146)
 have G0 := aside (blk_on (blk_on (heap_alloc_new w (.cells #[.int .i64 I] 3)) b1) b2)
 have g1 := blk_on (heap_alloc_new (w.alloc (.cells #[.int .i64 I] 3)) (.cells #[.int .i64 K] 3)) b2
 have g2 := heap_alloc_new ((w.alloc (.cells #[.int .i64 I] 3)).alloc (.cells #[.int .i64 K] 3)) (.cells #[.pointer p] 146)
 simp only [World.size_alloc] at g1 g2
 have G1 := aside g1
 have G2 := aside g2
 have B := aside (bthen (bthen b0 b1) b2)
 have ht' : TObjE ((w.alloc (.cells #[.int .i64 I] 3)).alloc (.cells #[.int .i64 K] 3)) tb jv p := blk_on (blk_on ht b0) b1
 obtain ⟨-, -, -, -, r0, -⟩ := tobjE ht'
 clear ht ht' g1 g2 b0 b1 b2
 go_enter Tryz.func98, Tryz.ntmps98
 go_wp2
 go_ret
 exact ⟨_, rfl, ⟨_, _, _, rfl, G2.out, G0.out, G1.out⟩, B.out⟩
def spanL (T : Tr En Tl) (I K : Int) : List (Rw En Tl) := seg T.rows (max I 0).toNat (min K (T.cnt : Int)).toNat
theorem max_if (I : Int) : (if I < 0 then 0 else I) = max I 0 := by omega
theorem min_if (K c : Int) : (if c < K then c else K) = min K c := by omega
set_option maxHeartbeats 6400000 in
set_option maxRecDepth 100000 in
theorem span0 {w : World} {p : Option Addr} {T : Tr En Tl} {I K : Int} {lb : Array Value} {Ok : Rw En Tl → Prop} (h : SpanV w lb p I K) (hT : IsTE w p T) (hc : T.cnt ≤ 4611686018427387904) (hok : ∀ x ∈ T.rows, Ok x) (hK : -4611686018427387904 ≤ K) {N : Nat} (hN : (spanL T I K).length ≤ N) {Kp : World → World → Prop} (hKp : ∀ A B, Kp A B → Stay 172 A B)
    (m l : Nat) (J Jx : List (Rw En Tl) → World → Prop) (W : World) (hW : Below w.heap.size w W) (hd : ∀ s W, J s W → J s W.drew) (hY : YOk Ok l m N Kp J Jx) (h0 : J [] W) :
    Calls Tryz.prog 124 (#[.func (.yield l) #[] #[]] ++ lb) W fun e W' => (∃ v, e = .returned v) ∧ ((∃ xs, xs = spanL T I K ∧ J xs W') ∨ (∃ pre, pre <+: spanL T I K ∧ Jx pre W')) := by
 have h' := h.below hW
 obtain ⟨rb, ib, jb, rfl, g0, g1, g2⟩ := h'
 have hT' : IsTE W p T := hT.on (fun _ _ e => blk_on e hW)
 have CW := aside (walkE hKp hd hY T hc hok (max I 0) (min K (T.cnt : Int)) p [] W.drew (hT'.on (Stay.refl _ _).drew) (by omega) (by omega) (hd _ _ h0) (by
  have e1 : (spanL T I K).length = (min K (T.cnt : Int)).toNat - (max I 0).toNat := by
   unfold spanL seg
   have := Tr.rows_length T
   simp only [List.length_drop, List.length_take]
   omega
  simp only [List.length_nil]
  omega) (by omega))
 have CR := aside (rowsE (hT'.on (Stay.refl _ W).drew))
 rw [show seg T.rows (max I 0).toNat (min K (T.cnt : Int)).toNat = spanL T I K from rfl] at CW
 generalize spanL T I K = sg at *
 have HS := aside (show W.cell? ⟨rb, 0, none⟩ = some (.pointer p) ∧ W.cell? ⟨ib, 0, none⟩ = some (.int .i64 I) ∧ W.cell? ⟨jb, 0, none⟩ = some (.int .i64 K) from ⟨cell_one g0, cell_one g1, cell_one g2⟩)
 obtain ⟨c, hcc⟩ : ∃ c : Int, (T.cnt : Int) = c := ⟨_, rfl⟩
 rw [hcc] at CW CR
 obtain ⟨a, ha⟩ : ∃ a : Int, max I 0 = a := ⟨_, rfl⟩
 obtain ⟨b, hb⟩ : ∃ b : Int, min K c = b := ⟨_, rfl⟩
 rw [ha, hb] at CW
 have HA := aside ((max_if I).trans ha)
 have HB := aside ((min_if K c).trans hb)
 clear h hT hT' g0 g1 g2 hY h0 hd hcc ha hb hc hK hN hW hok
 show Calls Tryz.prog 124 #[.func (.yield l) #[] #[], .pointer (some ⟨rb, 0, none⟩), .pointer (some ⟨ib, 0, none⟩), .pointer (some ⟨jb, 0, none⟩)] W _
 go_enter Tryz.func124, Tryz.ntmps124
 go_wp2_with fail
 refine wp_region_until (z := 8) (S := fun X => X.cell? ⟨rb, 0, none⟩ = some (.pointer p) ∧ X.cell? ⟨ib, 0, none⟩ = some (.int .i64 I) ∧ X.cell? ⟨jb, 0, none⟩ = some (.int .i64 K)) (by kernel_rfl) HS.out (fun hHeld => ?_)
 refine Until.take (i := 0) (v := ?_) [8] rfl (by kernel_rfl) (by kernel_rfl) (by kernel_rfl) (by kernel_rfl) (by rfl) (by rfl) (by kernel_rfl) (fun _ _ _ h => h) (Or.inl ⟨by rfl, ?_⟩) (by assumption) ?_
 rotate_left
 ·intro w hSw
  go_simp
  try with_reducible rfl
 simp only [Act.put, gA, gB, gD, gE, gF]
 refine Until.take (i := 1) (v := ?_) [2, 8] rfl (by kernel_rfl) (by kernel_rfl) (by kernel_rfl) (by kernel_rfl) (by rfl) (by rfl) (by kernel_rfl) (fun _ _ _ h => h) (Or.inl ⟨by rfl, ?_⟩) (by assumption) ?_
 rotate_left
 ·intro w hSw
  go_simp
  try with_reducible rfl
 simp only [Act.put, gA, gB, gC, gD, gE, gF]
 refine Until.take (i := 2) (v := ?_) [8] rfl (by kernel_rfl) (by kernel_rfl) (by kernel_rfl) (by kernel_rfl) (by rfl) (by rfl) (by kernel_rfl) (fun _ _ _ h => h) (Or.inl ⟨by rfl, ?_⟩) (by assumption) ?_
 rotate_left
 ·intro w hSw
  go_simp
  try with_reducible rfl
 simp only [Act.put, gA, gB, gC, gD, gE, gF]
 rw [HA.out]
 refine Until.take (i := 3) (v := ?_) [6, 8] rfl (by kernel_rfl) (by kernel_rfl) (by kernel_rfl) (by kernel_rfl) (by rfl) (by rfl) (by kernel_rfl) (fun _ _ _ h => h) (Or.inl ⟨by rfl, ?_⟩) (by assumption) ?_
 rotate_left
 ·intro w hSw
  go_simp
  try with_reducible rfl
 simp only [Act.put, gA, gB, gC, gD, gE, gF]
 refine Until.take (i := 4) (v := ?_) [5, 6, 8] rfl (by kernel_rfl) (by kernel_rfl) (by kernel_rfl) (by kernel_rfl) (by rfl) (by rfl) (by kernel_rfl) (fun _ _ _ h => h) (Or.inl ⟨by rfl, ?_⟩) (by assumption) ?_
 rotate_left
 ·intro w hSw
  go_simp
  try with_reducible rfl
 simp only [Act.put, gA, gB, gC, gD, gE, gF]
 refine Until.takeY (i := 7) (v := ?_) rfl (by kernel_rfl) (by kernel_rfl) (by kernel_rfl) (by rfl) (fun _ _ _ h => h) (Or.inl ⟨by rfl, ?_⟩) (by assumption) ?_
 rotate_left
 ·intro w hSw
  go_simp
  try with_reducible rfl
 simp only [Act.put, gA, gB, gC, gD, gE, gF]
 refine Until.step (i := 5) (by kernel_rfl) rfl (by rfl) (fun K' hK' => ?_)
 go_simp
 refine CR.out.mono ?_
 rintro e w9 ⟨rfl, rfl⟩
 refine hK'.out _ _ hHeld (fun hHeld => ?_)
 clear hK' K'
 refine Until.take (i := 6) (v := ?_) [8] rfl (by kernel_rfl) (by kernel_rfl) (by kernel_rfl) (by kernel_rfl) (by rfl) (by rfl) (by kernel_rfl) (fun _ _ _ h => h) (Or.inl ⟨by rfl, ?_⟩) (by assumption) ?_
 rotate_left
 ·intro w hSw
  go_simp
  try with_reducible rfl
 simp only [Act.put, gA, gB, gC, gD, gE, gF]
 rw [HB.out]
 refine Until.last (by kernel_rfl) rfl (fun K' hK' => ?_)
 go_simp
 refine CW.out.mono ?_
 rintro e w8 (⟨rfl, h1, h2⟩ | ⟨rfl, q, h1, h2⟩)
 ·refine hK'.out _ _ ?_
  clear hK' K'
  refine wpAny_of_held (S := fun _ => True) _ _ _ _ ?_
  refine wpAnyH_done (by kernel_rfl) ?_ _
  have H1 := aside h1
  clear h1 h2
  go_wp2
  go_end0
  exact ⟨⟨_, rfl⟩, .inl ⟨_, rfl, by have h9 := H1.out; simpa using h9⟩⟩
 ·refine hK'.out _ _ ?_
  clear hK' K'
  refine wpAny_of_held (S := fun _ => True) _ _ _ _ ?_
  refine wpAnyH_done (by kernel_rfl) ?_ _
  have H1 := aside h1
  have H2 := aside h2
  clear h1 h2
  go_wp2
  go_end0
  exact ⟨⟨_, rfl⟩, .inr ⟨q, by have h9 := H1.out; simpa using h9, H2.out⟩⟩
theorem span1 {w : World} {p : Option Addr} {T : Tr En Tl} {I K : Int} {lb : Array Value} (h : SpanV w lb p I K) (hT : IsTE w p T) (hc : T.cnt ≤ 4611686018427387904) (hK : -4611686018427387904 ≤ K) {n N : Nat} (hN : (spanL T I K).length ≤ N) {Kp : World → World → Prop} (hKp : ∀ A B, Kp A B → Stay 172 A B) :
    SeqStopsK Fence.wide n Tryz.prog 124 lb encs2 Kp (fun ys => ys = spanL T I K) (fun q => q <+: spanL T I K) N w := by
 intro l J Jx W hW hJ hJx hY h0
 have hd : ∀ s W, J s W → J s W.drew := fun s W1 hs => hJ s W1 W1.drew none hs ⟨rfl, rfl, rfl, Nat.le_refl _, fun _ _ _ => rfl⟩ (fun r e => by cases e)
 exact callsIn_wide.2 (span0 (Ok := fun _ => True) h hT hc (fun _ _ => trivial) hK hN hKp _ l J Jx W hW hd (fun pre x W1 _ hp hl => hY pre x W1 hp hl) h0)
end Go.Proofs.YtpbkjffiohfkcaaGreatDoor
namespace Go.Proofs.YtpbkjffiohfkcaaGreatDoor
open Go.RowKit Go.Shelf
set_option linter.unusedVariables false
attribute [local go_sem] Oper.semAt_some
def encE (x : En) : Array Value := #[.agg #[.string x.k, .int .i64 x.c, .int .i64 x.n, .string x.v, .bool x.d]]
def KpT (A B : World) : Prop := Stay 172 A B ∧ Stay 131 A B ∧ Stay 4 A B
theorem KpT.refl (A : World) : KpT A A := ⟨Stay.refl _ _, Stay.refl _ _, Stay.refl _ _⟩
theorem KpT.t {A B C : World} (h : KpT A B) (h2 : KpT B C) : KpT A C := ⟨h.1.trans h2.1, h.2.1.trans h2.2.1, h.2.2.trans h2.2.2⟩
theorem KpT.alloc {A B : World} (h : KpT A B) (o : Obj) : KpT A (B.alloc o) := ⟨h.1.alloc o, h.2.1.alloc o, h.2.2.alloc o⟩
theorem KpT.b (W : World) (l : Nat) (o o' : Obj) (h : W.heap[l]? = some o) (ho : o.isCells = false) : KpT W (W.putObj l o') := by
 have s : ∀ T, Stay T W (W.putObj l o') := fun T i cs e => by
  by_cases hi : i = l
  ·subst hi; rw [h] at e; injection e with e; subst e; cases ho
  ·exact (World.putObj_heap_other hi).trans e
 exact ⟨s _, s _, s _⟩
def entsOf (dd : Bool) (l : List (Rw En Tl)) : List En := (l.map (·.v)).filter (fun e => dd || !e.d)
theorem entsOf_snoc (dd : Bool) (l : List (Rw En Tl)) (x : Rw En Tl) : entsOf dd (l ++ [x]) = entsOf dd l ++ (if dd || !x.v.d then [x.v] else []) := by
 unfold entsOf
 rw [List.map_append, List.filter_append]
 congr 1
 simp only [List.map_cons, List.map_nil]
 cases h : (dd || !x.v.d)
 ·rw [List.filter_cons_of_neg (by simpa using h)]; simp
 ·rw [List.filter_cons_of_pos (by simpa using h)]; simp
theorem entsOf_prefix {dd : Bool} {l m : List (Rw En Tl)} (h : l <+: m) : entsOf dd l <+: entsOf dd m := by
 obtain ⟨r, rfl⟩ := h
 unfold entsOf
 rw [List.map_append, List.filter_append]
 exact List.prefix_append _ _
theorem entsOf_length (dd : Bool) (l : List (Rw En Tl)) : (entsOf dd l).length ≤ l.length := by
 unfold entsOf
 exact Nat.le_trans (List.length_filter_le _ _) (by simp)
set_option maxHeartbeats 8000000 in
set_option maxRecDepth 100000 in
theorem thru1 {w : World} {hb db : Nat} {dd : Bool} {lbS : Array Value} {sg : List (Rw En Tl)} (hh : w.heap[hb]? = some (.cells #[.func (.func 124) #[] lbS] 159 (0, 0))) (hd : w.heap[db]? = some (.cells #[.bool dd] 4 (0, 0)))
    (hs : SeqO Tryz.prog 124 lbS encs2 KpT (fun ys => ys = sg) (fun q => q <+: sg) sg.length w) :
    SeqO Tryz.prog 99 #[.pointer (some ⟨hb, 0, none⟩), .pointer (some ⟨db, 0, none⟩)] encE KpT (fun ys => ys = entsOf dd sg) (fun q => q <+: entsOf dd sg) sg.length w := by
 intro m l J Jx W hW hJ hJx hY h0
 have hh' := blk_on hh hW
 have hd' := blk_on hd hW
 have b1 := bnew W (.cells #[.func (.yield l) #[] #[]] 131)
 have yb := heap_alloc_new W (.cells #[.func (.yield l) #[] #[]] 131)
 have c0 := cell_one (blk_on hh' b1)
 have BW := aside (bthen hW b1)
 have J0 := aside (hJ.alloc (.cells #[.func (.yield l) #[] #[]] 131) h0)
 have YV := aside yb
 have DV := aside (blk_on hd' b1)
 have HY := aside hY
 have HS := aside hs
 clear hh hd hs hh' hd' b1 yb hY h0
 refine (callsIn_wide (n := m + 3)).1 ?_
 refine callsIn_of_wp_marks Tryz.func99 rfl trivial ?_ rfl
 simp only [Tryz.ntmps99, List.size_toArray, List.length_cons, List.length_nil, Nat.reduceAdd, Nat.reduceSub, Array.replicate_succ, Array.replicate_zero, List.push_toArray, List.append_toArray, List.nil_append, List.cons_append]
 gi_wp2_with fail
 refine wpIn_wide.2 (wp_scope_straight ((wpIn_wide (n := m + 3)).1 ?_))
 refine wpIn_seq (wpIn_label ?_)
 gi_wp2_with fail
 have VS := aside (show W.heap.size + 1 = (W.alloc (.cells #[.func (.yield l) #[] #[]] 131)).heap.size from by simp)
 have HJ := aside hJ
 have HJx := aside hJx
 clear c0 hJ hJx hW
 generalize W.alloc (.cells #[.func (.yield l) #[] #[]] 131) = V at *
 have ownI : OwnFrom V.heap.size (fun (pre : List (Rw En Tl)) X => J (entsOf dd pre) X ∧ X.heap[W.heap.size]? = some (.cells #[.func (.yield l) #[] #[]] 131 (0, 0)) ∧ X.heap[db]? = some (.cells #[.bool dd] 4 (0, 0))) := fun s A B row hs hg hr =>
  have hr' : ∀ r, row = some r → ∃ o : Obj, A.heap[r]? = some o ∧ o.isCells = false := fun r e => (hr r e).2
  ⟨HJ.out _ A B row hs.1 hg (fun r e => ⟨by have := (hr r e).1; have := VS.out; omega, (hr r e).2⟩), cells_own hs.2.1 hg hr', cells_own hs.2.2 hg hr'⟩
 refine rangeO rfl (enters_of Tryz.func124 (by kernel_rfl) rfl) HS.out KpT.t (fun W l o o' _ h ho => KpT.b W l o o' h ho) BW.out (fun _ => rfl)
  (fun (pre : List (Rw En Tl)) X => J (entsOf dd pre) X ∧ X.heap[W.heap.size]? = some (.cells #[.func (.yield l) #[] #[]] 131 (0, 0)) ∧ X.heap[db]? = some (.cells #[.bool dd] 4 (0, 0)))
  (fun c pre X => c = .ret ∧ Jx (entsOf dd pre) X) ownI (fun c s A B row hs hg hr => ⟨hs.1, HJx.out _ A B row hs.2 hg (fun r e => ⟨by have := (hr r e).1; have := VS.out; omega, (hr r e).2⟩)⟩) ⟨J0.out, YV.out, DV.out⟩
  (fun x a' X => ∃ eb : Nat, a' = ⟨#[.func (.yield l) #[] #[], .pointer (some ⟨hb, 0, none⟩), .pointer (some ⟨db, 0, none⟩), .pointer (some ⟨W.heap.size, 0, none⟩), undef, .pointer (some ⟨eb, 0, none⟩), .func (.func 124) #[] lbS, .string x.k, .agg #[.string x.v.k, .int .i64 x.v.c, .int .i64 x.v.n, .string x.v.v, .bool x.v.d], undef, undef, undef, undef, undef, undef, undef, undef, undef, undef, undef, undef], []⟩ ∧ X.heap[eb]? = some (.cells #[.string x.v.k, .int .i64 x.v.c, .int .i64 x.v.n, .string x.v.v, .bool x.v.d] 77 (0, 0)))
  (fun x a' _ A B row hs hg hr => by
   obtain ⟨eb, h1, h2⟩ := hs
   exact ⟨eb, h1, cells_own h2 hg (fun r e => (hr r e).2)⟩) ?assign ?body ?done ?stop
 case assign =>
  intro l' pre x X K hi hK
  dsimp only [encs2]
  gi_wp2
  refine hK _ _ ?_ ?_ ?_ ⟨_, rfl, heap_alloc_new X _⟩
  ·exact KeepsFrom.of_grownBy (World.grownBy_alloc X _ none) (fun j e => by cases e)
  ·exact (KpT.refl X).alloc _
  ·exact ownI.alloc _ hi
 case body =>
  rintro l' pre ⟨xk, ⟨vk, vc, vn, vv, vd⟩, xs⟩ a' X ⟨hj, hy, hd⟩ ⟨eb, rfl, he⟩ hlen
  dsimp only at he ⊢
  obtain ⟨e0, e1, e2, e3, e4, -⟩ := penta he
  have D0 := cell_one hd
  have Y0 := cell_one hy
  have HX := aside (show J (entsOf dd pre) X ∧ X.heap[W.heap.size]? = some (.cells #[.func (.yield l) #[] #[]] 131 (0, 0)) ∧ X.heap[db]? = some (.cells #[.bool dd] 4 (0, 0)) from ⟨hj, hy, hd⟩)
  have HLN := aside hlen
  have hsn := aside (entsOf_snoc dd pre ⟨xk, ⟨vk, vc, vn, vv, vd⟩, xs⟩)
  clear hj hy hd he hlen
  cases vd with
  | false =>
   rw [show (if dd || !(⟨xk, ⟨vk, vc, vn, vv, false⟩, xs⟩ : Rw En Tl).v.d then [(⟨xk, ⟨vk, vc, vn, vv, false⟩, xs⟩ : Rw En Tl).v] else []) = [⟨vk, vc, vn, vv, false⟩] from by simp] at hsn
   obtain ⟨fn, tmps, assign, body, hy, hR⟩ := HY.out (entsOf dd pre) ⟨vk, vc, vn, vv, false⟩ X HX.out.1 (Nat.lt_of_le_of_lt (entsOf_length _ _) HLN.out)
   dsimp only [encE] at hy
   have HR := aside hR
   clear hR
   gi_wp2_with fail
   refine HR.out.mono ?_
   rintro e X3 ⟨kf, ⟨rfl, hj3, kp3⟩ | ⟨rfl, hx3⟩⟩
   ·have KF := aside (keepsFrom_up kf (show W.heap.size ≤ V.heap.size from by have := VS.out; omega))
    have KP := aside kp3
    have J3 := aside hj3
    clear kf kp3 hj3 hy
    gi_wp2
    exact ⟨KF.out, KP.out, by rw [hsn.out]; exact J3.out, KP.out.2.1 _ _ HX.out.2.1, KP.out.2.2 _ _ HX.out.2.2⟩
   ·have KF := aside (keepsFrom_up kf (show W.heap.size ≤ V.heap.size from by have := VS.out; omega))
    have X3' := aside hx3
    clear kf hx3 hy
    gi_wp2
    exact ⟨KF.out, rfl, by rw [hsn.out]; exact X3'.out⟩
  | true =>
   cases dd with
   | true =>
    obtain ⟨fn, tmps, assign, body, hy, hR⟩ := HY.out (entsOf true pre) ⟨vk, vc, vn, vv, true⟩ X HX.out.1 (Nat.lt_of_le_of_lt (entsOf_length _ _) HLN.out)
    dsimp only [encE] at hy
    have HR := aside hR
    clear hR
    gi_wp2_with fail
    refine HR.out.mono ?_
    rintro e X3 ⟨kf, ⟨rfl, hj3, kp3⟩ | ⟨rfl, hx3⟩⟩
    ·have KF := aside (keepsFrom_up kf (show W.heap.size ≤ V.heap.size from by have := VS.out; omega))
     have KP := aside kp3
     have J3 := aside hj3
     clear kf kp3 hj3 hy
     gi_wp2
     exact ⟨KF.out, KP.out, by rw [hsn.out]; exact J3.out, KP.out.2.1 _ _ HX.out.2.1, KP.out.2.2 _ _ HX.out.2.2⟩
    ·have KF := aside (keepsFrom_up kf (show W.heap.size ≤ V.heap.size from by have := VS.out; omega))
     have X3' := aside hx3
     clear kf hx3 hy
     gi_wp2
     exact ⟨KF.out, rfl, by rw [hsn.out]; exact X3'.out⟩
   | false =>
    gi_wp2
    exact ⟨KeepsFrom.refl _ _, KpT.refl _, by rw [hsn.out]; simpa using HX.out.1, HX.out.2.1, HX.out.2.2⟩
 case done =>
  rintro D xs X hD rfl ⟨hj, hy, hd⟩ hK
  have FIN := aside (HJ.out.putObj (.deferred none) hj (by have := VS.out; omega) hK rfl)
  clear hj hy hd
  gi_wp2
  refine ⟨by simp, .inl ⟨_, _, rfl, run_takeDeferred hK, ?_⟩⟩
  exact ⟨_, results_none rfl _ _ _, ⟨_, rfl⟩, .inl ⟨_, rfl, FIN.out⟩⟩
 case stop =>
  rintro D c pre X hD hp ⟨rfl, hj⟩ hK
  have FIN := aside (HJx.out.putObj (.deferred none) hj (by have := VS.out; omega) hK rfl)
  clear hj
  gi_wp2
  refine ⟨by simp, .inl ⟨_, _, rfl, run_takeDeferred hK, ?_⟩⟩
  exact ⟨_, results_none rfl _ _ _, ⟨_, rfl⟩, .inr ⟨_, entsOf_prefix hp, FIN.out⟩⟩
end Go.Proofs.YtpbkjffiohfkcaaGreatDoor
namespace Go.Proofs.YtpbkjffiohfkcaaGreatDoor
open Go.RowKit Go.Shelf
set_option linter.unusedVariables false
attribute [local go_sem] Oper.semAt_some
def SeqE (w : World) (lb : Array Value) (es : List En) : Prop := ∃ N, N ≤ 1000000 ∧ es.length ≤ N ∧ SeqO Tryz.prog 99 lb encE KpT (fun ys => ys = es) (fun q => q <+: es) N w
def thruL (lo hi : ByteArray) (op dd : Bool) (Ls : List En) : List En := (Ls.filter (inR lo hi op)).filter (fun e => dd || !e.d)
theorem rows_thru {T : Tr En Tl} {Ls : List En} {lo hi : ByteArray} {op : Bool} (hH : Hol T Ls) (h : op = true ∨ kLt hi lo = false) (dd : Bool) : entsOf dd (spanL T (belE lo Ls : Int) (endE hi op Ls : Int)) = thruL lo hi op dd Ls := by
 unfold spanL entsOf thruL
 have h1 := belE_le lo Ls
 have h2 := endE_le hi op Ls
 rw [show (max (belE lo Ls : Int) 0).toNat = belE lo Ls from by omega, show (min (endE hi op Ls : Int) (T.cnt : Int)).toNat = endE hi op Ls from by rw [hH.cnt]; omega, hH.rows, seg_map, seg_range hH.rises h, List.map_map]
 congr 1
 exact List.map_id _
set_option maxHeartbeats 3200000 in
set_option maxRecDepth 100000 in
theorem sthru (lo hi : ByteArray) (op dd : Bool) {Ls : List En} {w : World} {sb g tb : Nat} {nd ck : Int} {T : Tr En Tl} {n : Nat} (h : IsSt w sb g tb nd ck T n) (hH : Hol T Ls) (hl : Ls.length ≤ 1000000) :
    Calls Tryz.prog 64 #[.pointer (some ⟨sb, 0, none⟩), .agg #[.string lo, .string hi, .bool op], .bool dd] w fun r w' => Below w.heap.size w w' ∧ ((Rg.chk ⟨lo, hi, op⟩ ≠ 0 ∧ r = .returned (.tuple #[.nilFunc, .int .i64 (Rg.chk ⟨lo, hi, op⟩)])) ∨ (Rg.chk ⟨lo, hi, op⟩ = 0 ∧ ∃ lb, r = .returned (.tuple #[.func (.func 99) #[] lb, .int .i64 0]) ∧ SeqE w' lb (thruL lo hi op dd Ls))) := by
 have hmf : ∀ (fn : Fn) (first cap : Array Value) (w : World), (Instr.makeFunc fn first cap).run Tryz.prog w = .ok (.func fn first cap) w := fun _ _ _ _ => rfl
 have b0 := bnew w (.cells #[.string lo, .string hi, .bool op] 40)
 have b1 := bnew (w.alloc (.cells #[.string lo, .string hi, .bool op] 40)) (.cells #[.bool dd] 4)
 have B := aside (bthen b0 b1)
 have G0 := aside (blk_on (heap_alloc_new w (.cells #[.string lo, .string hi, .bool op] 40)) b1)
 have g1 := heap_alloc_new (w.alloc (.cells #[.string lo, .string hi, .bool op] 40)) (.cells #[.bool dd] 4)
 simp only [World.size_alloc] at g1
 have G1 := aside g1
 have H := aside (h.below B.out)
 have C1 := aside (fun (W : World) => check_any lo hi op W)
 have CR := aside (fun (W : World) (h : IsSt W sb g tb nd ck T n) => srows lo hi op h hH hl)
 have HH := aside hH
 have HLE := aside hl
 obtain ⟨c, hc⟩ : ∃ c, Rg.chk ⟨lo, hi, op⟩ = c := ⟨_, rfl⟩
 rw [hc] at C1 ⊢
 have HC := aside hc
 clear h hH hl b0 b1 g1 hc
 obtain ⟨q0, q1, q2, -⟩ := tri G0.out
 by_cases h0 : c = 0
 ·subst h0
  go_enter Tryz.func64, Tryz.ntmps64
  go_wp2_with fail
  refine (C1.out _).mono ?_
  rintro e w1 ⟨rfl, b1⟩
  have H1 := aside (H.out.below b1)
  have G1' := aside (blk_on G1.out b1)
  have B1 := aside (bthen B.out b1)
  obtain ⟨r0, r1, r2, -⟩ := tri (blk_on G0.out b1)
  clear b1 H G1 G0 B C1 q0 q1 q2
  go_wp2_with fail
  refine (CR.out _ H1.out).mono ?_
  rintro e w2 ⟨rfl, b2⟩
  have H2 := aside (H1.out.below b2)
  have G2 := aside (blk_on G1'.out b2)
  have B2 := aside (bthen B1.out b2)
  obtain ⟨-, -, -, c3, -⟩ := quad H2.out.blk
  clear b2 H1 G1' B1 CR r0 r1 r2
  go_wp2_with fail
  obtain ⟨p, ht, hT⟩ := H2.out.tree
  have HT := aside hT
  have CS := aside (yspan (belE lo Ls : Int) (endE hi op Ls : Int) ht)
  clear ht hT
  refine CS.out.mono ?_
  rintro e w3 ⟨lbS, rfl, hs, b3⟩
  have HS := aside hs
  have B3 := aside b3
  clear hs b3 CS c3
  go_wp2
  go_ret2
  have b4 := bnew w3 (.cells #[.func (.func 124) #[] lbS] 159)
  have hcn := HH.out.cnt
  have hT3 : IsTE w3 p T := HT.out.on (fun _ _ e => blk_on e B3.out)
  have hle := HLE.out
  have hsp : (spanL T (belE lo Ls : Int) (endE hi op Ls : Int)).length ≤ Ls.length := by
   unfold spanL seg
   have := Tr.rows_length T
   simp only [List.length_drop, List.length_take]
   omega
  have hq := thru1 (dd := dd) (hb := w3.heap.size) (db := w.heap.size + 1) (sg := spanL T (belE lo Ls : Int) (endE hi op Ls : Int)) (heap_alloc_new w3 (.cells #[.func (.func 124) #[] lbS] 159)) (blk_on (blk_on G2.out B3.out) b4)
   (SeqO.of_stops fun n => span1 (HS.out.below b4) (hT3.on (fun _ _ e => blk_on e b4)) (by omega) (by omega) (Nat.le_refl _) (fun A B h => h.1))
  rw [rows_thru HH.out (chk_may HC.out) dd] at hq
  refine ⟨bthen (bthen B2.out B3.out) b4, .inr ⟨by simp, _, rfl, (spanL T (belE lo Ls : Int) (endE hi op Ls : Int)).length, by omega, ?_, hq⟩⟩
  rw [← rows_thru HH.out (chk_may HC.out) dd]
  exact entsOf_length _ _
 ·have h0' : (c == 0) = false := beq_eq_false_iff_ne.2 h0
  have HN := aside h0
  clear h0
  go_enter Tryz.func64, Tryz.ntmps64
  go_wp2_with fail
  refine (C1.out _).mono ?_
  rintro e w1 ⟨rfl, b1⟩
  have B1 := aside (bthen B.out b1)
  clear b1 H G1 G0 B C1 q0 q1 q2
  go_wp2
  go_ret2
  exact ⟨B1.out, .inl ⟨HN.out, rfl⟩⟩
set_option maxHeartbeats 3200000 in
set_option maxRecDepth 100000 in
theorem sall (lo hi : ByteArray) (op : Bool) {Ls : List En} {w : World} {sb g tb : Nat} {nd ck : Int} {T : Tr En Tl} {n : Nat} (h : IsSt w sb g tb nd ck T n) (hH : Hol T Ls) (hl : Ls.length ≤ 1000000) :
    Calls Tryz.prog 37 #[.pointer (some ⟨sb, 0, none⟩), .agg #[.string lo, .string hi, .bool op]] w fun r w' => Below w.heap.size w w' ∧ ((Rg.chk ⟨lo, hi, op⟩ ≠ 0 ∧ r = .returned (.tuple #[.nilFunc, .int .i64 (Rg.chk ⟨lo, hi, op⟩)])) ∨ (Rg.chk ⟨lo, hi, op⟩ = 0 ∧ ∃ lb, r = .returned (.tuple #[.func (.func 99) #[] lb, .int .i64 0]) ∧ SeqE w' lb (thruL lo hi op true Ls))) := by
 have b0 := bnew w (.cells #[.string lo, .string hi, .bool op] 40)
 have C := aside (sthru lo hi op true (h.below b0) hH hl)
 have B := aside b0
 obtain ⟨q0, q1, q2, -⟩ := tri (heap_alloc_new w (.cells #[.string lo, .string hi, .bool op] 40))
 clear h hH hl b0
 go_enter Tryz.func37, Tryz.ntmps37
 go_wp2_with fail
 refine C.out.mono ?_
 rintro r w1 ⟨b1, ⟨hc, rfl⟩ | ⟨hc, lb, rfl, hs⟩⟩
 ·have B1 := aside (bthen B.out b1)
  have HC := aside hc
  clear b1 hc C q0 q1 q2
  go_wp2
  go_ret2
  exact ⟨B1.out, .inl ⟨HC.out, rfl⟩⟩
 ·have B1 := aside (bthen B.out b1)
  have HC := aside hc
  have HS := aside hs
  clear b1 hc hs C q0 q1 q2
  go_wp2
  go_ret2
  exact ⟨B1.out, .inr ⟨HC.out, _, rfl, HS.out⟩⟩
theorem qall (lo hi : ByteArray) (op : Bool) {w : World} {sb g tb : Nat} {nd ck : Int} {Ls : List En} (h : Sto w sb g tb nd ck Ls) (hl : Ls.length ≤ 1000000) :
    Calls Tryz.prog 37 #[.pointer (some ⟨sb, 0, none⟩), .agg #[.string lo, .string hi, .bool op]] w fun r w' => Below w.heap.size w w' ∧ ((Rg.chk ⟨lo, hi, op⟩ ≠ 0 ∧ r = .returned (.tuple #[.nilFunc, .int .i64 (Rg.chk ⟨lo, hi, op⟩)])) ∨ (Rg.chk ⟨lo, hi, op⟩ = 0 ∧ ∃ lb, r = .returned (.tuple #[.func (.func 99) #[] lb, .int .i64 0]) ∧ SeqE w' lb (thruL lo hi op true Ls))) := by
 obtain ⟨T, n, h1, h2⟩ := h
 exact sall lo hi op h1 h2 hl
end Go.Proofs.YtpbkjffiohfkcaaGreatDoor

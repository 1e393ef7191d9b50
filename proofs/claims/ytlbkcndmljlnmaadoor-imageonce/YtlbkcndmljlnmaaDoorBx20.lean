/-
  The walk over a tree: which rows it hands out, and when it stops.
-/
import Derived.Test.YtlbkcndmljlnmaaDoorBx15
import Derived.Test.YtlbkcndmljlnmaaDoorBx6
import Derived.Test.YtlbkcndmljlnmaaDoorBx12
import Derived.OrdersIn
namespace Go.Proofs.YtlbkcndmljlnmaaDoor
open Go.RowKit Go.Shelf
set_option linter.unusedVariables false
attribute [local go_sem] Oper.semAt_some
/-- A row, as it is handed out. -/
def encs2 (x : Rw En Tl) : Array Value := #[.string x.k, .agg #[.string x.v.k, .int .i64 x.v.c, .int .i64 x.v.n, .string x.v.v, .bool x.v.d]]
theorem seg_none {β α : Type} (l : List (Rw β α)) {i j : Nat} (h : j ≤ i) : seg l i j = [] := by
  unfold seg
  rw [List.drop_eq_nil_iff]
  simp; omega
/-- The part of a node's rows: of the left side, its own, of the right side. -/
theorem seg_node {β α : Type} (A B : List (Rw β α)) (y : Rw β α) {i j : Nat} (hj : j ≤ A.length + 1 + B.length) :
    seg (A ++ y :: B) i j = seg A i (min j A.length) ++ ((if i ≤ A.length ∧ A.length < j then [y] else []) ++ seg B (i - A.length - 1) (j - A.length - 1)) := by
  unfold seg
  rw [List.take_append, List.drop_append]
  by_cases h : A.length < j
  · obtain ⟨m, rfl⟩ : ∃ m, j = A.length + 1 + m := ⟨j - A.length - 1, by omega⟩
    rw [show A.length + 1 + m - A.length = m + 1 from by omega, List.take_succ_cons, show min (A.length + 1 + m) A.length = A.length from by omega, List.take_of_length_le (by omega : A.length ≤ A.length + 1 + m), List.take_length, show m + 1 - 1 = m from by omega]
    by_cases h2 : i ≤ A.length
    · rw [if_pos ⟨h2, h⟩, show i - A.length = 0 from by omega, show 0 - 1 = 0 from rfl]
      simp
    · rw [if_neg (by omega), show i - A.length = (i - A.length - 1) + 1 from by omega, List.drop_succ_cons]
      simp
  · rw [show j - A.length = 0 from by omega, if_neg (by omega), show min j A.length = j from by omega]
    simp
/-- How a walk comes back. -/
def WOk (J Jx : List (Rw En Tl) → World → Prop) (pre sg : List (Rw En Tl)) (W0 : World) (e : Ending) (W' : World) : Prop :=
  (e = .returned (.bool true) ∧ J (pre ++ sg) W' ∧ Stay 145 W0 W') ∨ (e = .returned (.bool false) ∧ ∃ q, q <+: pre ++ sg ∧ Jx q W')
/-- What yield does. -/
def YOk (Ok : Rw En Tl → Prop) (l m N : Nat) (Kp : World → World → Prop) (J Jx : List (Rw En Tl) → World → Prop) : Prop :=
  ∀ pre x W1, Ok x → J pre W1 → pre.length < N → YieldAt Fence.wide m Tryd.prog l (encs2 x) W1 fun e W' =>
    (e = .returned (.bool true) ∧ J (pre ++ [x]) W' ∧ Kp W1 W') ∨ (e = .returned (.bool false) ∧ Jx (pre ++ [x]) W')
def WalkOk (l N : Nat) (J Jx : List (Rw En Tl) → World → Prop) (T : Tr En Tl) : Prop :=
  ∀ (I K : Int) (p : Option Addr) (pre : List (Rw En Tl)) (W : World), IsTE W p T → 0 ≤ I → K ≤ (T.cnt : Int) → J pre W → pre.length + (K.toNat - I.toNat) ≤ N → -4611686018427387904 ≤ K →
    Calls Tryd.prog 110 #[.pointer p, .int .i64 I, .int .i64 K, .func (.yield l) #[] #[]] W (WOk J Jx pre (seg T.rows I.toNat K.toNat) W)
theorem sgI {I K : Int} (h : K ≤ I) (l : List (Rw En Tl)) : seg l I.toNat K.toNat = [] := seg_none l (by omega)
set_option maxHeartbeats 1600000 in
set_option maxRecDepth 100000 in
/-- Nothing to walk. -/
theorem walkNone (l : Nat) (J Jx : List (Rw En Tl) → World → Prop) (pre : List (Rw En Tl)) (I K : Int) (p : Option Addr) (W : World) (h : K ≤ I) (hJ : J pre W) :
    Calls Tryd.prog 110 #[.pointer p, .int .i64 I, .int .i64 K, .func (.yield l) #[] #[]] W (WOk J Jx pre [] W) := by
  have HJ := aside hJ
  clear hJ
  go_enter Tryd.func110, Tryd.ntmps110
  go_wp2
  go_ret
  exact .inl ⟨rfl, by rw [List.append_nil]; exact HJ.out, Stay.refl _ _⟩
set_option maxHeartbeats 6400000 in
set_option maxRecDepth 100000 in
theorem walkHigh {Ok : Rw En Tl → Prop} {l m N : Nat} {J Jx : List (Rw En Tl) → World → Prop} {Kp : World → World → Prop} (hKp : ∀ A B, Kp A B → Stay 145 A B) (hd : ∀ s W, J s W → J s W.drew) (hY : YOk Ok l m N Kp J Jx)
    {W : World} {b : Nat} {k : ByteArray} {v : En} {s q : Tl} {lp rp : Option Addr} {C H I K lc : Int} {pre sl sr all : List (Rw En Tl)} (hb : W.heap[b]? = some (.cells #[.string k, .string v.k, .int .i64 v.c, .int .i64 v.n, .string v.v, .bool v.d, .int .i64 s.n, .int .u64 s.a, .int .u64 s.b, .pointer lp, .pointer rp, .int .i64 C, .int .i64 H, .int .i64 q.n, .int .u64 q.a, .int .u64 q.b] 145 (0, 0)))
    (CR : Calls Tryd.prog 84 #[.pointer lp] W fun e w' => e = .returned (.int .i64 lc) ∧ w' = W)
    (CL : Calls Tryd.prog 110 #[.pointer lp, .int .i64 I, .int .i64 lc, .func (.yield l) #[] #[]] W (WOk J Jx pre sl W))
    (CT : ∀ W', Stay 145 W W' → J (pre ++ sl) W' → Calls Tryd.prog 110 #[.pointer rp, .int .i64 (I - lc - 1), .int .i64 (K - lc - 1), .func (.yield l) #[] #[]] W' (WOk J Jx (pre ++ sl) sr W'))
    (h1 : I < K) (ho : ¬ I ≤ lc) (ho2 : lc < K) (w1 : IntKind.i64.wrap (I - lc) = I - lc) (w2 : IntKind.i64.wrap (I - lc - 1) = I - lc - 1) (w3 : IntKind.i64.wrap (K - lc) = K - lc) (w4 : IntKind.i64.wrap (K - lc - 1) = K - lc - 1)
    (hall : sl ++ ([] ++ sr) = all) :
    Calls Tryd.prog 110 #[.pointer (some ⟨b, 0, none⟩), .int .i64 I, .int .i64 K, .func (.yield l) #[] #[]] W (WOk J Jx pre all W) := by
  have HN := aside hb
  have CR' := aside CR
  have CL' := aside CL
  have CT' := aside CT
  have HY := aside hY
  have HA := aside hall
  skip
  have HD := aside hd
  have HKP := aside hKp
  have hn := nodeE hb
  obtain ⟨-, -, -, -, -, -, -, -, -, n9, -, -, -, -, -, -⟩ := hn
  clear hb CR CL CT hY hall hd hKp
  have hx : I - lc - 1 < 0 ∨ ¬ I - lc - 1 < 0 := by omega
  have hx0 : ¬ I - lc - 1 < 0 := by omega
  clear hx
  refine (callsIn_wide (n := m + 1)).1 ?_
  refine callsIn_of_wp Tryd.func110 rfl trivial ?_ rfl
  simp only [Tryd.ntmps110, List.size_toArray, List.length_cons, List.length_nil, Nat.reduceAdd, Nat.reduceSub, Array.replicate_succ, Array.replicate_zero, List.push_toArray, List.append_toArray, List.nil_append, List.cons_append]
  gi_wp2_with fail
  refine ⟨trivial, ?_⟩
  refine (callsIn_wide.2 CR'.out).mono ?_
  rintro e w5 ⟨rfl, rfl⟩
  gi_wp2_with fail
  refine ⟨trivial, ?_⟩
  refine (callsIn_wide.2 CL'.out).mono ?_
  rintro e w6 (⟨rfl, hJ, hs⟩ | ⟨rfl, z, hz, hx⟩)
  rotate_left
  · have HX := aside hx
    have HZ := aside hz
    clear hx hz
    gi_wp2
    refine bodyPost_ret (v := .bool false) (by simp [results, Tryd.results110, go_sem]) rfl (.inr ⟨rfl, z, ?_, HX.out⟩)
    have hz := HZ.out
    rw [← HA.out]
    exact hz.trans (List.prefix_append_right_inj pre |>.2 (List.prefix_append _ _))
  · have HJ := aside hJ
    have HS := aside hs
    clear hJ hs n9 CR' CL'
    gi_wp2_with fail
    refine wpIn_region_any (by kernel_rfl) ?_
    refine wpAnyIn_take (i := 0) (v := ?_) rfl rfl (by kernel_rfl) (by kernel_rfl) (by kernel_rfl) (fun _ _ _ h => h) ⟨Or.inl ⟨by rfl, ?_⟩, fun _ => rfl⟩ ?_
    rotate_left
    · intro w
      go_simp
      try with_reducible rfl
    simp only [Act.put, List.getElem_toArray, List.getElem_cons_zero, List.setIfInBounds_toArray, List.set_cons_zero, List.set_cons_succ]
    refine wpAnyIn_take (i := 1) (v := ?_) rfl rfl (by kernel_rfl) (by kernel_rfl) (by kernel_rfl) (fun _ _ _ h => h) ⟨Or.inl ⟨by rfl, ?_⟩, fun _ => rfl⟩ ?_
    rotate_left
    · intro w
      go_simp
      try with_reducible rfl
    simp only [Act.put, List.getElem_toArray, List.getElem_cons_zero, List.getElem_cons_succ, List.setIfInBounds_toArray, List.set_cons_zero, List.set_cons_succ]
    refine wpAnyIn_take (i := 2) (v := .bool false) rfl rfl (by kernel_rfl) (by kernel_rfl) (by kernel_rfl) (fun _ _ _ h => h) ⟨Or.inl ⟨by rfl, ?_⟩, fun _ => rfl⟩ ?_
    · intro w
      go_simp
      try omega
    simp only [Act.put, List.getElem_toArray, List.getElem_cons_zero, List.getElem_cons_succ, List.setIfInBounds_toArray, List.set_cons_zero, List.set_cons_succ]
    refine wpAnyIn_take (i := 3) (v := ?_) rfl rfl (by kernel_rfl) (by kernel_rfl) (by kernel_rfl) (fun _ _ _ h => h) ⟨Or.inl ⟨by rfl, ?_⟩, fun _ => rfl⟩ ?_
    rotate_left
    · intro w
      go_simp
      try with_reducible rfl
    simp only [Act.put, List.getElem_toArray, List.getElem_cons_zero, List.getElem_cons_succ, List.setIfInBounds_toArray, List.set_cons_zero, List.set_cons_succ]
    refine wpAnyIn_take (i := 4) (v := undef) rfl rfl (by kernel_rfl) (by kernel_rfl) (by kernel_rfl) (fun _ _ _ h => h) ⟨Or.inr ⟨by rfl, rfl⟩, fun _ => rfl⟩ ?_
    simp only [Act.put, List.getElem_toArray, List.getElem_cons_zero, List.getElem_cons_succ, List.setIfInBounds_toArray, List.set_cons_zero, List.set_cons_succ]
    refine wpAnyIn_take (i := 5) (v := undef) rfl rfl (by kernel_rfl) (by kernel_rfl) (by kernel_rfl) (fun _ _ _ h => h) ⟨Or.inr ⟨by rfl, rfl⟩, fun _ => rfl⟩ ?_
    simp only [Act.put, List.getElem_toArray, List.getElem_cons_zero, List.getElem_cons_succ, List.setIfInBounds_toArray, List.set_cons_zero, List.set_cons_succ]
    refine wpAnyIn_take (i := 6) (v := undef) rfl rfl (by kernel_rfl) (by kernel_rfl) (by kernel_rfl) (fun _ _ _ h => h) ⟨Or.inr ⟨by rfl, rfl⟩, fun _ => rfl⟩ ?_
    simp only [Act.put, List.getElem_toArray, List.getElem_cons_zero, List.getElem_cons_succ, List.setIfInBounds_toArray, List.set_cons_zero, List.set_cons_succ]
    refine wpAnyIn_take (i := 7) (v := ?_) rfl rfl (by kernel_rfl) (by kernel_rfl) (by kernel_rfl) (fun _ _ _ h => h) ⟨Or.inl ⟨by rfl, ?_⟩, fun _ => rfl⟩ ?_
    rotate_left
    · intro w
      go_simp
      try with_reducible rfl
    simp only [Act.put, List.getElem_toArray, List.getElem_cons_zero, List.getElem_cons_succ, List.setIfInBounds_toArray, List.set_cons_zero, List.set_cons_succ]
    refine wpAnyIn_take (i := 8) (v := ?_) rfl rfl (by kernel_rfl) (by kernel_rfl) (by kernel_rfl) (fun _ _ _ h => h) ⟨Or.inl ⟨by rfl, ?_⟩, fun _ => rfl⟩ ?_
    rotate_left
    · intro w
      go_simp
      try with_reducible rfl
    simp only [Act.put, List.getElem_toArray, List.getElem_cons_zero, List.getElem_cons_succ, List.setIfInBounds_toArray, List.set_cons_zero, List.set_cons_succ]
    refine wpAnyIn_take (i := 9) (v := undef) rfl rfl (by kernel_rfl) (by kernel_rfl) (by kernel_rfl) (fun _ _ _ h => h) ⟨Or.inr ⟨by rfl, rfl⟩, fun _ => rfl⟩ ?_
    simp only [Act.put, List.getElem_toArray, List.getElem_cons_zero, List.getElem_cons_succ, List.setIfInBounds_toArray, List.set_cons_zero, List.set_cons_succ]
    refine wpAnyIn_take (i := 10) (v := undef) rfl rfl (by kernel_rfl) (by kernel_rfl) (by kernel_rfl) (fun _ _ _ h => h) ⟨Or.inr ⟨by rfl, rfl⟩, fun _ => rfl⟩ ?_
    simp only [Act.put, List.getElem_toArray, List.getElem_cons_zero, List.getElem_cons_succ, List.setIfInBounds_toArray, List.set_cons_zero, List.set_cons_succ]
    refine wpAnyIn_take (i := 11) (v := undef) rfl rfl (by kernel_rfl) (by kernel_rfl) (by kernel_rfl) (fun _ _ _ h => h) ⟨Or.inr ⟨by rfl, rfl⟩, fun _ => rfl⟩ ?_
    simp only [Act.put, List.getElem_toArray, List.getElem_cons_zero, List.getElem_cons_succ, List.setIfInBounds_toArray, List.set_cons_zero, List.set_cons_succ]
    refine wpAnyIn_take (i := 12) (v := undef) rfl rfl (by kernel_rfl) (by kernel_rfl) (by kernel_rfl) (fun _ _ _ h => h) ⟨Or.inr ⟨by rfl, rfl⟩, fun _ => rfl⟩ ?_
    simp only [Act.put, List.getElem_toArray, List.getElem_cons_zero, List.getElem_cons_succ, List.setIfInBounds_toArray, List.set_cons_zero, List.set_cons_succ]
    refine wpAnyIn_take (i := 13) (v := undef) rfl rfl (by kernel_rfl) (by kernel_rfl) (by kernel_rfl) (fun _ _ _ h => h) ⟨Or.inr ⟨by rfl, rfl⟩, fun _ => rfl⟩ ?_
    simp only [Act.put, List.getElem_toArray, List.getElem_cons_zero, List.getElem_cons_succ, List.setIfInBounds_toArray, List.set_cons_zero, List.set_cons_succ]
    refine wpAnyIn_take (i := 14) (v := undef) rfl rfl (by kernel_rfl) (by kernel_rfl) (by kernel_rfl) (fun _ _ _ h => h) ⟨Or.inr ⟨by rfl, rfl⟩, fun _ => rfl⟩ ?_
    simp only [Act.put, List.getElem_toArray, List.getElem_cons_zero, List.getElem_cons_succ, List.setIfInBounds_toArray, List.set_cons_zero, List.set_cons_succ]
    refine wpAnyIn_take (i := 15) (v := undef) rfl rfl (by kernel_rfl) (by kernel_rfl) (by kernel_rfl) (fun _ _ _ h => h) ⟨Or.inr ⟨by rfl, rfl⟩, fun _ => rfl⟩ ?_
    simp only [Act.put, List.getElem_toArray, List.getElem_cons_zero, List.getElem_cons_succ, List.setIfInBounds_toArray, List.set_cons_zero, List.set_cons_succ]
    refine wpAnyIn_take (i := 16) (v := undef) rfl rfl (by kernel_rfl) (by kernel_rfl) (by kernel_rfl) (fun _ _ _ h => h) ⟨Or.inr ⟨by rfl, rfl⟩, fun _ => rfl⟩ ?_
    simp only [Act.put, List.getElem_toArray, List.getElem_cons_zero, List.getElem_cons_succ, List.setIfInBounds_toArray, List.set_cons_zero, List.set_cons_succ]
    refine wpAnyIn_take (i := 17) (v := undef) rfl rfl (by kernel_rfl) (by kernel_rfl) (by kernel_rfl) (fun _ _ _ h => h) ⟨Or.inr ⟨by rfl, rfl⟩, fun _ => rfl⟩ ?_
    simp only [Act.put, List.getElem_toArray, List.getElem_cons_zero, List.getElem_cons_succ, List.setIfInBounds_toArray, List.set_cons_zero, List.set_cons_succ]
    refine wpAnyIn_take (i := 18) (v := undef) rfl rfl (by kernel_rfl) (by kernel_rfl) (by kernel_rfl) (fun _ _ _ h => h) ⟨Or.inr ⟨by rfl, rfl⟩, fun _ => rfl⟩ ?_
    simp only [Act.put, List.getElem_toArray, List.getElem_cons_zero, List.getElem_cons_succ, List.setIfInBounds_toArray, List.set_cons_zero, List.set_cons_succ]
    refine wpAnyIn_take (i := 19) (v := undef) rfl rfl (by kernel_rfl) (by kernel_rfl) (by kernel_rfl) (fun _ _ _ h => h) ⟨Or.inr ⟨by rfl, rfl⟩, fun _ => rfl⟩ ?_
    simp only [Act.put, List.getElem_toArray, List.getElem_cons_zero, List.getElem_cons_succ, List.setIfInBounds_toArray, List.set_cons_zero, List.set_cons_succ]
    refine wpAnyIn_take (i := 20) (v := undef) rfl rfl (by kernel_rfl) (by kernel_rfl) (by kernel_rfl) (fun _ _ _ h => h) ⟨Or.inr ⟨by rfl, rfl⟩, fun _ => rfl⟩ ?_
    simp only [Act.put, List.getElem_toArray, List.getElem_cons_zero, List.getElem_cons_succ, List.setIfInBounds_toArray, List.set_cons_zero, List.set_cons_succ]
    refine wpAnyIn_take (i := 21) (v := undef) rfl rfl (by kernel_rfl) (by kernel_rfl) (by kernel_rfl) (fun _ _ _ h => h) ⟨Or.inr ⟨by rfl, rfl⟩, fun _ => rfl⟩ ?_
    simp only [Act.put, List.getElem_toArray, List.getElem_cons_zero, List.getElem_cons_succ, List.setIfInBounds_toArray, List.set_cons_zero, List.set_cons_succ]
    refine wpAnyIn_take (i := 22) (v := ?_) rfl rfl (by kernel_rfl) (by kernel_rfl) (by kernel_rfl) (fun _ _ _ h => h) ⟨Or.inl ⟨by rfl, ?_⟩, fun _ => rfl⟩ ?_
    rotate_left
    · intro w
      go_simp
      try with_reducible rfl
    simp only [Act.put, List.getElem_toArray, List.getElem_cons_zero, List.getElem_cons_succ, List.setIfInBounds_toArray, List.set_cons_zero, List.set_cons_succ]
    refine wpAnyIn_done (by kernel_rfl) ?_ _
    have hn2 := nodeE (HS.out _ _ HN.out)
    obtain ⟨-, -, -, -, -, -, -, -, -, -, n10, -, -, -, -, -⟩ := hn2
    have d9 := (cell_drew_own w6 ⟨b, 10, none⟩).trans n10
    gi_wp2_with fail
    refine ⟨trivial, ?_⟩
    refine (callsIn_wide.2 (CT'.out _ HS.out.drew (HD.out _ _ HJ.out))).mono ?_
    rintro e w7 (⟨rfl, hJ, hs⟩ | ⟨rfl, z, hz, hx⟩)
    · have HJ2 := aside hJ
      have HS2 := aside hs
      clear hJ hs n10 d9
      gi_wp2
      refine bodyPost_ret (v := .bool true) (by simp [results, Tryd.results110, go_sem]) rfl (.inl ⟨rfl, ?_, HS.out.trans HS2.out⟩)
      have h9 := HJ2.out
      rw [← HA.out]
      simpa [List.append_assoc] using h9
    · have HX := aside hx
      have HZ := aside hz
      clear hx hz n10 d9
      gi_wp2
      refine bodyPost_ret (v := .bool false) (by simp [results, Tryd.results110, go_sem]) rfl (.inr ⟨rfl, z, ?_, HX.out⟩)
      have h9 := HZ.out
      rw [← HA.out]
      simpa [List.append_assoc] using h9
set_option maxHeartbeats 6400000 in
set_option maxRecDepth 100000 in
theorem walkLow {Ok : Rw En Tl → Prop} {l m N : Nat} {J Jx : List (Rw En Tl) → World → Prop} {Kp : World → World → Prop} (hKp : ∀ A B, Kp A B → Stay 145 A B) (hd : ∀ s W, J s W → J s W.drew) (hY : YOk Ok l m N Kp J Jx)
    {W : World} {b : Nat} {k : ByteArray} {v : En} {s q : Tl} {lp rp : Option Addr} {C H I K lc : Int} {pre sl sr all : List (Rw En Tl)} (hb : W.heap[b]? = some (.cells #[.string k, .string v.k, .int .i64 v.c, .int .i64 v.n, .string v.v, .bool v.d, .int .i64 s.n, .int .u64 s.a, .int .u64 s.b, .pointer lp, .pointer rp, .int .i64 C, .int .i64 H, .int .i64 q.n, .int .u64 q.a, .int .u64 q.b] 145 (0, 0)))
    (CR : Calls Tryd.prog 84 #[.pointer lp] W fun e w' => e = .returned (.int .i64 lc) ∧ w' = W)
    (CL : Calls Tryd.prog 110 #[.pointer lp, .int .i64 I, .int .i64 K, .func (.yield l) #[] #[]] W (WOk J Jx pre sl W))
    (CT : ∀ W', Stay 145 W W' → J (pre ++ sl) W' → Calls Tryd.prog 110 #[.pointer rp, .int .i64 0, .int .i64 (K - lc - 1), .func (.yield l) #[] #[]] W' (WOk J Jx (pre ++ sl) sr W'))
    (h1 : I < K) (ho : I ≤ lc) (ho2 : ¬ lc < K) (w1 : IntKind.i64.wrap (I - lc) = I - lc) (w2 : IntKind.i64.wrap (I - lc - 1) = I - lc - 1) (w3 : IntKind.i64.wrap (K - lc) = K - lc) (w4 : IntKind.i64.wrap (K - lc - 1) = K - lc - 1)
    (hall : sl ++ ([] ++ sr) = all) :
    Calls Tryd.prog 110 #[.pointer (some ⟨b, 0, none⟩), .int .i64 I, .int .i64 K, .func (.yield l) #[] #[]] W (WOk J Jx pre all W) := by
  have HN := aside hb
  have CR' := aside CR
  have CL' := aside CL
  have CT' := aside CT
  have HY := aside hY
  have HA := aside hall
  skip
  have HD := aside hd
  have HKP := aside hKp
  have hn := nodeE hb
  obtain ⟨-, -, -, -, -, -, -, -, -, n9, -, -, -, -, -, -⟩ := hn
  clear hb CR CL CT hY hall hd hKp
  have hx : I - lc - 1 < 0 ∨ ¬ I - lc - 1 < 0 := by omega
  have hx0 : I - lc - 1 < 0 := by omega
  clear hx
  refine (callsIn_wide (n := m + 1)).1 ?_
  refine callsIn_of_wp Tryd.func110 rfl trivial ?_ rfl
  simp only [Tryd.ntmps110, List.size_toArray, List.length_cons, List.length_nil, Nat.reduceAdd, Nat.reduceSub, Array.replicate_succ, Array.replicate_zero, List.push_toArray, List.append_toArray, List.nil_append, List.cons_append]
  gi_wp2_with fail
  refine ⟨trivial, ?_⟩
  refine (callsIn_wide.2 CR'.out).mono ?_
  rintro e w5 ⟨rfl, rfl⟩
  gi_wp2_with fail
  refine ⟨trivial, ?_⟩
  refine (callsIn_wide.2 CL'.out).mono ?_
  rintro e w6 (⟨rfl, hJ, hs⟩ | ⟨rfl, z, hz, hx⟩)
  rotate_left
  · have HX := aside hx
    have HZ := aside hz
    clear hx hz
    gi_wp2
    refine bodyPost_ret (v := .bool false) (by simp [results, Tryd.results110, go_sem]) rfl (.inr ⟨rfl, z, ?_, HX.out⟩)
    have hz := HZ.out
    rw [← HA.out]
    exact hz.trans (List.prefix_append_right_inj pre |>.2 (List.prefix_append _ _))
  · have HJ := aside hJ
    have HS := aside hs
    clear hJ hs n9 CR' CL'
    gi_wp2_with fail
    refine wpIn_region_any (by kernel_rfl) ?_
    refine wpAnyIn_take (i := 0) (v := ?_) rfl rfl (by kernel_rfl) (by kernel_rfl) (by kernel_rfl) (fun _ _ _ h => h) ⟨Or.inl ⟨by rfl, ?_⟩, fun _ => rfl⟩ ?_
    rotate_left
    · intro w
      go_simp
      try with_reducible rfl
    simp only [Act.put, List.getElem_toArray, List.getElem_cons_zero, List.setIfInBounds_toArray, List.set_cons_zero, List.set_cons_succ]
    refine wpAnyIn_take (i := 1) (v := ?_) rfl rfl (by kernel_rfl) (by kernel_rfl) (by kernel_rfl) (fun _ _ _ h => h) ⟨Or.inl ⟨by rfl, ?_⟩, fun _ => rfl⟩ ?_
    rotate_left
    · intro w
      go_simp
      try with_reducible rfl
    simp only [Act.put, List.getElem_toArray, List.getElem_cons_zero, List.getElem_cons_succ, List.setIfInBounds_toArray, List.set_cons_zero, List.set_cons_succ]
    refine wpAnyIn_take (i := 2) (v := .bool true) rfl rfl (by kernel_rfl) (by kernel_rfl) (by kernel_rfl) (fun _ _ _ h => h) ⟨Or.inl ⟨by rfl, ?_⟩, fun _ => rfl⟩ ?_
    · intro w
      go_simp
      try omega
    simp only [Act.put, List.getElem_toArray, List.getElem_cons_zero, List.getElem_cons_succ, List.setIfInBounds_toArray, List.set_cons_zero, List.set_cons_succ]
    refine wpAnyIn_take (i := 3) (v := ?_) rfl rfl (by kernel_rfl) (by kernel_rfl) (by kernel_rfl) (fun _ _ _ h => h) ⟨Or.inl ⟨by rfl, ?_⟩, fun _ => rfl⟩ ?_
    rotate_left
    · intro w
      go_simp
      try with_reducible rfl
    simp only [Act.put, List.getElem_toArray, List.getElem_cons_zero, List.getElem_cons_succ, List.setIfInBounds_toArray, List.set_cons_zero, List.set_cons_succ]
    refine wpAnyIn_take (i := 4) (v := ?_) rfl rfl (by kernel_rfl) (by kernel_rfl) (by kernel_rfl) (fun _ _ _ h => h) ⟨Or.inl ⟨by rfl, ?_⟩, fun _ => rfl⟩ ?_
    rotate_left
    · intro w
      go_simp
      try with_reducible rfl
    simp only [Act.put, List.getElem_toArray, List.getElem_cons_zero, List.getElem_cons_succ, List.setIfInBounds_toArray, List.set_cons_zero, List.set_cons_succ]
    refine wpAnyIn_take (i := 5) (v := ?_) rfl rfl (by kernel_rfl) (by kernel_rfl) (by kernel_rfl) (fun _ _ _ h => h) ⟨Or.inl ⟨by rfl, ?_⟩, fun _ => rfl⟩ ?_
    rotate_left
    · intro w
      go_simp
      try with_reducible rfl
    simp only [Act.put, List.getElem_toArray, List.getElem_cons_zero, List.getElem_cons_succ, List.setIfInBounds_toArray, List.set_cons_zero, List.set_cons_succ]
    refine wpAnyIn_take (i := 6) (v := .bool false) rfl rfl (by kernel_rfl) (by kernel_rfl) (by kernel_rfl) (fun _ _ _ h => h) ⟨Or.inl ⟨by rfl, ?_⟩, fun _ => rfl⟩ ?_
    · intro w
      go_simp
      try omega
    simp only [Act.put, List.getElem_toArray, List.getElem_cons_zero, List.getElem_cons_succ, List.setIfInBounds_toArray, List.set_cons_zero, List.set_cons_succ]
    refine wpAnyIn_take (i := 7) (v := ?_) rfl rfl (by kernel_rfl) (by kernel_rfl) (by kernel_rfl) (fun _ _ _ h => h) ⟨Or.inl ⟨by rfl, ?_⟩, fun _ => rfl⟩ ?_
    rotate_left
    · intro w
      go_simp
      try with_reducible rfl
    simp only [Act.put, List.getElem_toArray, List.getElem_cons_zero, List.getElem_cons_succ, List.setIfInBounds_toArray, List.set_cons_zero, List.set_cons_succ]
    refine wpAnyIn_take (i := 8) (v := ?_) rfl rfl (by kernel_rfl) (by kernel_rfl) (by kernel_rfl) (fun _ _ _ h => h) ⟨Or.inl ⟨by rfl, ?_⟩, fun _ => rfl⟩ ?_
    rotate_left
    · intro w
      go_simp
      try with_reducible rfl
    simp only [Act.put, List.getElem_toArray, List.getElem_cons_zero, List.getElem_cons_succ, List.setIfInBounds_toArray, List.set_cons_zero, List.set_cons_succ]
    refine wpAnyIn_take (i := 9) (v := undef) rfl rfl (by kernel_rfl) (by kernel_rfl) (by kernel_rfl) (fun _ _ _ h => h) ⟨Or.inr ⟨by rfl, rfl⟩, fun _ => rfl⟩ ?_
    simp only [Act.put, List.getElem_toArray, List.getElem_cons_zero, List.getElem_cons_succ, List.setIfInBounds_toArray, List.set_cons_zero, List.set_cons_succ]
    refine wpAnyIn_take (i := 10) (v := undef) rfl rfl (by kernel_rfl) (by kernel_rfl) (by kernel_rfl) (fun _ _ _ h => h) ⟨Or.inr ⟨by rfl, rfl⟩, fun _ => rfl⟩ ?_
    simp only [Act.put, List.getElem_toArray, List.getElem_cons_zero, List.getElem_cons_succ, List.setIfInBounds_toArray, List.set_cons_zero, List.set_cons_succ]
    refine wpAnyIn_take (i := 11) (v := undef) rfl rfl (by kernel_rfl) (by kernel_rfl) (by kernel_rfl) (fun _ _ _ h => h) ⟨Or.inr ⟨by rfl, rfl⟩, fun _ => rfl⟩ ?_
    simp only [Act.put, List.getElem_toArray, List.getElem_cons_zero, List.getElem_cons_succ, List.setIfInBounds_toArray, List.set_cons_zero, List.set_cons_succ]
    refine wpAnyIn_take (i := 12) (v := undef) rfl rfl (by kernel_rfl) (by kernel_rfl) (by kernel_rfl) (fun _ _ _ h => h) ⟨Or.inr ⟨by rfl, rfl⟩, fun _ => rfl⟩ ?_
    simp only [Act.put, List.getElem_toArray, List.getElem_cons_zero, List.getElem_cons_succ, List.setIfInBounds_toArray, List.set_cons_zero, List.set_cons_succ]
    refine wpAnyIn_take (i := 13) (v := undef) rfl rfl (by kernel_rfl) (by kernel_rfl) (by kernel_rfl) (fun _ _ _ h => h) ⟨Or.inr ⟨by rfl, rfl⟩, fun _ => rfl⟩ ?_
    simp only [Act.put, List.getElem_toArray, List.getElem_cons_zero, List.getElem_cons_succ, List.setIfInBounds_toArray, List.set_cons_zero, List.set_cons_succ]
    refine wpAnyIn_take (i := 14) (v := undef) rfl rfl (by kernel_rfl) (by kernel_rfl) (by kernel_rfl) (fun _ _ _ h => h) ⟨Or.inr ⟨by rfl, rfl⟩, fun _ => rfl⟩ ?_
    simp only [Act.put, List.getElem_toArray, List.getElem_cons_zero, List.getElem_cons_succ, List.setIfInBounds_toArray, List.set_cons_zero, List.set_cons_succ]
    refine wpAnyIn_take (i := 15) (v := undef) rfl rfl (by kernel_rfl) (by kernel_rfl) (by kernel_rfl) (fun _ _ _ h => h) ⟨Or.inr ⟨by rfl, rfl⟩, fun _ => rfl⟩ ?_
    simp only [Act.put, List.getElem_toArray, List.getElem_cons_zero, List.getElem_cons_succ, List.setIfInBounds_toArray, List.set_cons_zero, List.set_cons_succ]
    refine wpAnyIn_take (i := 16) (v := undef) rfl rfl (by kernel_rfl) (by kernel_rfl) (by kernel_rfl) (fun _ _ _ h => h) ⟨Or.inr ⟨by rfl, rfl⟩, fun _ => rfl⟩ ?_
    simp only [Act.put, List.getElem_toArray, List.getElem_cons_zero, List.getElem_cons_succ, List.setIfInBounds_toArray, List.set_cons_zero, List.set_cons_succ]
    refine wpAnyIn_take (i := 17) (v := undef) rfl rfl (by kernel_rfl) (by kernel_rfl) (by kernel_rfl) (fun _ _ _ h => h) ⟨Or.inr ⟨by rfl, rfl⟩, fun _ => rfl⟩ ?_
    simp only [Act.put, List.getElem_toArray, List.getElem_cons_zero, List.getElem_cons_succ, List.setIfInBounds_toArray, List.set_cons_zero, List.set_cons_succ]
    refine wpAnyIn_take (i := 18) (v := undef) rfl rfl (by kernel_rfl) (by kernel_rfl) (by kernel_rfl) (fun _ _ _ h => h) ⟨Or.inr ⟨by rfl, rfl⟩, fun _ => rfl⟩ ?_
    simp only [Act.put, List.getElem_toArray, List.getElem_cons_zero, List.getElem_cons_succ, List.setIfInBounds_toArray, List.set_cons_zero, List.set_cons_succ]
    refine wpAnyIn_take (i := 19) (v := undef) rfl rfl (by kernel_rfl) (by kernel_rfl) (by kernel_rfl) (fun _ _ _ h => h) ⟨Or.inr ⟨by rfl, rfl⟩, fun _ => rfl⟩ ?_
    simp only [Act.put, List.getElem_toArray, List.getElem_cons_zero, List.getElem_cons_succ, List.setIfInBounds_toArray, List.set_cons_zero, List.set_cons_succ]
    refine wpAnyIn_take (i := 20) (v := undef) rfl rfl (by kernel_rfl) (by kernel_rfl) (by kernel_rfl) (fun _ _ _ h => h) ⟨Or.inr ⟨by rfl, rfl⟩, fun _ => rfl⟩ ?_
    simp only [Act.put, List.getElem_toArray, List.getElem_cons_zero, List.getElem_cons_succ, List.setIfInBounds_toArray, List.set_cons_zero, List.set_cons_succ]
    refine wpAnyIn_take (i := 21) (v := undef) rfl rfl (by kernel_rfl) (by kernel_rfl) (by kernel_rfl) (fun _ _ _ h => h) ⟨Or.inr ⟨by rfl, rfl⟩, fun _ => rfl⟩ ?_
    simp only [Act.put, List.getElem_toArray, List.getElem_cons_zero, List.getElem_cons_succ, List.setIfInBounds_toArray, List.set_cons_zero, List.set_cons_succ]
    refine wpAnyIn_take (i := 22) (v := ?_) rfl rfl (by kernel_rfl) (by kernel_rfl) (by kernel_rfl) (fun _ _ _ h => h) ⟨Or.inl ⟨by rfl, ?_⟩, fun _ => rfl⟩ ?_
    rotate_left
    · intro w
      go_simp
      try with_reducible rfl
    simp only [Act.put, List.getElem_toArray, List.getElem_cons_zero, List.getElem_cons_succ, List.setIfInBounds_toArray, List.set_cons_zero, List.set_cons_succ]
    refine wpAnyIn_done (by kernel_rfl) ?_ _
    have hn2 := nodeE (HS.out _ _ HN.out)
    obtain ⟨-, -, -, -, -, -, -, -, -, -, n10, -, -, -, -, -⟩ := hn2
    have d9 := (cell_drew_own w6 ⟨b, 10, none⟩).trans n10
    gi_wp2_with fail
    refine ⟨trivial, ?_⟩
    refine (callsIn_wide.2 (CT'.out _ HS.out.drew (HD.out _ _ HJ.out))).mono ?_
    rintro e w7 (⟨rfl, hJ, hs⟩ | ⟨rfl, z, hz, hx⟩)
    · have HJ2 := aside hJ
      have HS2 := aside hs
      clear hJ hs n10 d9
      gi_wp2
      refine bodyPost_ret (v := .bool true) (by simp [results, Tryd.results110, go_sem]) rfl (.inl ⟨rfl, ?_, HS.out.trans HS2.out⟩)
      have h9 := HJ2.out
      rw [← HA.out]
      simpa [List.append_assoc] using h9
    · have HX := aside hx
      have HZ := aside hz
      clear hx hz n10 d9
      gi_wp2
      refine bodyPost_ret (v := .bool false) (by simp [results, Tryd.results110, go_sem]) rfl (.inr ⟨rfl, z, ?_, HX.out⟩)
      have h9 := HZ.out
      rw [← HA.out]
      simpa [List.append_assoc] using h9
set_option maxHeartbeats 6400000 in
set_option maxRecDepth 100000 in
theorem walkOwn {Ok : Rw En Tl → Prop} {l m N : Nat} {J Jx : List (Rw En Tl) → World → Prop} {Kp : World → World → Prop} (hKp : ∀ A B, Kp A B → Stay 145 A B) (hd : ∀ s W, J s W → J s W.drew) (hY : YOk Ok l m N Kp J Jx)
    {W : World} {b : Nat} {k : ByteArray} {v : En} {s q : Tl} {lp rp : Option Addr} {C H I K lc : Int} {pre sl sr all : List (Rw En Tl)} (hb : W.heap[b]? = some (.cells #[.string k, .string v.k, .int .i64 v.c, .int .i64 v.n, .string v.v, .bool v.d, .int .i64 s.n, .int .u64 s.a, .int .u64 s.b, .pointer lp, .pointer rp, .int .i64 C, .int .i64 H, .int .i64 q.n, .int .u64 q.a, .int .u64 q.b] 145 (0, 0)))
    (CR : Calls Tryd.prog 84 #[.pointer lp] W fun e w' => e = .returned (.int .i64 lc) ∧ w' = W)
    (CL : Calls Tryd.prog 110 #[.pointer lp, .int .i64 I, .int .i64 lc, .func (.yield l) #[] #[]] W (WOk J Jx pre sl W))
    (CT : ∀ W', Stay 145 W W' → J (pre ++ sl ++ [⟨k, v, s⟩]) W' → Calls Tryd.prog 110 #[.pointer rp, .int .i64 0, .int .i64 (K - lc - 1), .func (.yield l) #[] #[]] W' (WOk J Jx (pre ++ sl ++ [⟨k, v, s⟩]) sr W'))
    (h1 : I < K) (ho : I ≤ lc) (ho2 : lc < K) (w1 : IntKind.i64.wrap (I - lc) = I - lc) (w2 : IntKind.i64.wrap (I - lc - 1) = I - lc - 1) (w3 : IntKind.i64.wrap (K - lc) = K - lc) (w4 : IntKind.i64.wrap (K - lc - 1) = K - lc - 1)
    (hall : sl ++ ([⟨k, v, s⟩] ++ sr) = all) (hN : (pre ++ sl).length < N) (hok : Ok ⟨k, v, s⟩) :
    Calls Tryd.prog 110 #[.pointer (some ⟨b, 0, none⟩), .int .i64 I, .int .i64 K, .func (.yield l) #[] #[]] W (WOk J Jx pre all W) := by
  have HN := aside hb
  have CR' := aside CR
  have CL' := aside CL
  have CT' := aside CT
  have HY := aside hY
  have HA := aside hall
  have HLN := aside hN
  have HD := aside hd
  have HKP := aside hKp
  have hn := nodeE hb
  obtain ⟨-, -, -, -, -, -, -, -, -, n9, -, -, -, -, -, -⟩ := hn
  have HOK := aside hok
  clear hb CR CL CT hY hall hd hKp hN hok
  have hx : I - lc - 1 < 0 ∨ ¬ I - lc - 1 < 0 := by omega
  have hx0 : I - lc - 1 < 0 := by omega
  clear hx
  refine (callsIn_wide (n := m + 1)).1 ?_
  refine callsIn_of_wp Tryd.func110 rfl trivial ?_ rfl
  simp only [Tryd.ntmps110, List.size_toArray, List.length_cons, List.length_nil, Nat.reduceAdd, Nat.reduceSub, Array.replicate_succ, Array.replicate_zero, List.push_toArray, List.append_toArray, List.nil_append, List.cons_append]
  gi_wp2_with fail
  refine ⟨trivial, ?_⟩
  refine (callsIn_wide.2 CR'.out).mono ?_
  rintro e w5 ⟨rfl, rfl⟩
  gi_wp2_with fail
  refine ⟨trivial, ?_⟩
  refine (callsIn_wide.2 CL'.out).mono ?_
  rintro e w6 (⟨rfl, hJ, hs⟩ | ⟨rfl, z, hz, hx⟩)
  rotate_left
  · have HX := aside hx
    have HZ := aside hz
    clear hx hz
    gi_wp2
    refine bodyPost_ret (v := .bool false) (by simp [results, Tryd.results110, go_sem]) rfl (.inr ⟨rfl, z, ?_, HX.out⟩)
    have hz := HZ.out
    rw [← HA.out]
    exact hz.trans (List.prefix_append_right_inj pre |>.2 (List.prefix_append _ _))
  · have HJ := aside hJ
    have HS := aside hs
    clear hJ hs n9 CR' CL'
    gi_wp2_with fail
    refine wpIn_region_any (by kernel_rfl) ?_
    refine wpAnyIn_take (i := 0) (v := ?_) rfl rfl (by kernel_rfl) (by kernel_rfl) (by kernel_rfl) (fun _ _ _ h => h) ⟨Or.inl ⟨by rfl, ?_⟩, fun _ => rfl⟩ ?_
    rotate_left
    · intro w
      go_simp
      try with_reducible rfl
    simp only [Act.put, List.getElem_toArray, List.getElem_cons_zero, List.setIfInBounds_toArray, List.set_cons_zero, List.set_cons_succ]
    refine wpAnyIn_take (i := 1) (v := ?_) rfl rfl (by kernel_rfl) (by kernel_rfl) (by kernel_rfl) (fun _ _ _ h => h) ⟨Or.inl ⟨by rfl, ?_⟩, fun _ => rfl⟩ ?_
    rotate_left
    · intro w
      go_simp
      try with_reducible rfl
    simp only [Act.put, List.getElem_toArray, List.getElem_cons_zero, List.getElem_cons_succ, List.setIfInBounds_toArray, List.set_cons_zero, List.set_cons_succ]
    refine wpAnyIn_take (i := 2) (v := .bool true) rfl rfl (by kernel_rfl) (by kernel_rfl) (by kernel_rfl) (fun _ _ _ h => h) ⟨Or.inl ⟨by rfl, ?_⟩, fun _ => rfl⟩ ?_
    · intro w
      go_simp
      try omega
    simp only [Act.put, List.getElem_toArray, List.getElem_cons_zero, List.getElem_cons_succ, List.setIfInBounds_toArray, List.set_cons_zero, List.set_cons_succ]
    refine wpAnyIn_take (i := 3) (v := ?_) rfl rfl (by kernel_rfl) (by kernel_rfl) (by kernel_rfl) (fun _ _ _ h => h) ⟨Or.inl ⟨by rfl, ?_⟩, fun _ => rfl⟩ ?_
    rotate_left
    · intro w
      go_simp
      try with_reducible rfl
    simp only [Act.put, List.getElem_toArray, List.getElem_cons_zero, List.getElem_cons_succ, List.setIfInBounds_toArray, List.set_cons_zero, List.set_cons_succ]
    refine wpAnyIn_take (i := 4) (v := ?_) rfl rfl (by kernel_rfl) (by kernel_rfl) (by kernel_rfl) (fun _ _ _ h => h) ⟨Or.inl ⟨by rfl, ?_⟩, fun _ => rfl⟩ ?_
    rotate_left
    · intro w
      go_simp
      try with_reducible rfl
    simp only [Act.put, List.getElem_toArray, List.getElem_cons_zero, List.getElem_cons_succ, List.setIfInBounds_toArray, List.set_cons_zero, List.set_cons_succ]
    refine wpAnyIn_take (i := 5) (v := ?_) rfl rfl (by kernel_rfl) (by kernel_rfl) (by kernel_rfl) (fun _ _ _ h => h) ⟨Or.inl ⟨by rfl, ?_⟩, fun _ => rfl⟩ ?_
    rotate_left
    · intro w
      go_simp
      try with_reducible rfl
    simp only [Act.put, List.getElem_toArray, List.getElem_cons_zero, List.getElem_cons_succ, List.setIfInBounds_toArray, List.set_cons_zero, List.set_cons_succ]
    refine wpAnyIn_take (i := 6) (v := .bool true) rfl rfl (by kernel_rfl) (by kernel_rfl) (by kernel_rfl) (fun _ _ _ h => h) ⟨Or.inl ⟨by rfl, ?_⟩, fun _ => rfl⟩ ?_
    · intro w
      go_simp
      try omega
    simp only [Act.put, List.getElem_toArray, List.getElem_cons_zero, List.getElem_cons_succ, List.setIfInBounds_toArray, List.set_cons_zero, List.set_cons_succ]
    refine wpAnyIn_take (i := 7) (v := ?_) rfl rfl (by kernel_rfl) (by kernel_rfl) (by kernel_rfl) (fun _ _ _ h => h) ⟨Or.inl ⟨by rfl, ?_⟩, fun _ => rfl⟩ ?_
    rotate_left
    · intro w
      go_simp
      try with_reducible rfl
    simp only [Act.put, List.getElem_toArray, List.getElem_cons_zero, List.getElem_cons_succ, List.setIfInBounds_toArray, List.set_cons_zero, List.set_cons_succ]
    refine wpAnyIn_take (i := 8) (v := ?_) rfl rfl (by kernel_rfl) (by kernel_rfl) (by kernel_rfl) (fun _ _ _ h => h) ⟨Or.inl ⟨by rfl, ?_⟩, fun _ => rfl⟩ ?_
    rotate_left
    · intro w
      go_simp
      try with_reducible rfl
    simp only [Act.put, List.getElem_toArray, List.getElem_cons_zero, List.getElem_cons_succ, List.setIfInBounds_toArray, List.set_cons_zero, List.set_cons_succ]
    refine wpAnyIn_take (i := 9) (v := ?_) rfl rfl (by kernel_rfl) (by kernel_rfl) (by kernel_rfl) (fun _ _ _ h => h) ⟨Or.inl ⟨by rfl, ?_⟩, fun _ => rfl⟩ ?_
    rotate_left
    · intro w
      go_simp
      try with_reducible rfl
    simp only [Act.put, List.getElem_toArray, List.getElem_cons_zero, List.getElem_cons_succ, List.setIfInBounds_toArray, List.set_cons_zero, List.set_cons_succ]
    refine wpAnyIn_take (i := 10) (v := ?_) rfl rfl (by kernel_rfl) (by kernel_rfl) (by kernel_rfl) (fun _ _ _ h => h) ⟨Or.inl ⟨by rfl, ?_⟩, fun _ => rfl⟩ ?_
    rotate_left
    · intro w
      go_simp
      try with_reducible rfl
    simp only [Act.put, List.getElem_toArray, List.getElem_cons_zero, List.getElem_cons_succ, List.setIfInBounds_toArray, List.set_cons_zero, List.set_cons_succ]
    refine wpAnyIn_take (i := 11) (v := ?_) rfl rfl (by kernel_rfl) (by kernel_rfl) (by kernel_rfl) (fun _ _ _ h => h) ⟨Or.inl ⟨by rfl, ?_⟩, fun _ => rfl⟩ ?_
    rotate_left
    · intro w
      go_simp
      try with_reducible rfl
    simp only [Act.put, List.getElem_toArray, List.getElem_cons_zero, List.getElem_cons_succ, List.setIfInBounds_toArray, List.set_cons_zero, List.set_cons_succ]
    refine wpAnyIn_take (i := 12) (v := ?_) rfl rfl (by kernel_rfl) (by kernel_rfl) (by kernel_rfl) (fun _ _ _ h => h) ⟨Or.inl ⟨by rfl, ?_⟩, fun _ => rfl⟩ ?_
    rotate_left
    · intro w
      go_simp
      try with_reducible rfl
    simp only [Act.put, List.getElem_toArray, List.getElem_cons_zero, List.getElem_cons_succ, List.setIfInBounds_toArray, List.set_cons_zero, List.set_cons_succ]
    refine wpAnyIn_take (i := 13) (v := ?_) rfl rfl (by kernel_rfl) (by kernel_rfl) (by kernel_rfl) (fun _ _ _ h => h) ⟨Or.inl ⟨by rfl, ?_⟩, fun _ => rfl⟩ ?_
    rotate_left
    · intro w
      go_simp
      try with_reducible rfl
    simp only [Act.put, List.getElem_toArray, List.getElem_cons_zero, List.getElem_cons_succ, List.setIfInBounds_toArray, List.set_cons_zero, List.set_cons_succ]
    refine wpAnyIn_take (i := 15) (v := ?_) rfl rfl (by kernel_rfl) (by kernel_rfl) (by kernel_rfl) (fun _ _ _ h => h) ⟨Or.inl ⟨by rfl, ?_⟩, fun _ => rfl⟩ ?_
    rotate_left
    · intro w
      go_simp
      try with_reducible rfl
    simp only [Act.put, List.getElem_toArray, List.getElem_cons_zero, List.getElem_cons_succ, List.setIfInBounds_toArray, List.set_cons_zero, List.set_cons_succ]
    refine wpAnyIn_take (i := 16) (v := ?_) rfl rfl (by kernel_rfl) (by kernel_rfl) (by kernel_rfl) (fun _ _ _ h => h) ⟨Or.inl ⟨by rfl, ?_⟩, fun _ => rfl⟩ ?_
    rotate_left
    · intro w
      go_simp
      try with_reducible rfl
    simp only [Act.put, List.getElem_toArray, List.getElem_cons_zero, List.getElem_cons_succ, List.setIfInBounds_toArray, List.set_cons_zero, List.set_cons_succ]
    refine wpAnyIn_take (i := 17) (v := ?_) rfl rfl (by kernel_rfl) (by kernel_rfl) (by kernel_rfl) (fun _ _ _ h => h) ⟨Or.inl ⟨by rfl, ?_⟩, fun _ => rfl⟩ ?_
    rotate_left
    · intro w
      go_simp
      try with_reducible rfl
    simp only [Act.put, List.getElem_toArray, List.getElem_cons_zero, List.getElem_cons_succ, List.setIfInBounds_toArray, List.set_cons_zero, List.set_cons_succ]
    refine wpAnyIn_take (i := 18) (v := ?_) rfl rfl (by kernel_rfl) (by kernel_rfl) (by kernel_rfl) (fun _ _ _ h => h) ⟨Or.inl ⟨by rfl, ?_⟩, fun _ => rfl⟩ ?_
    rotate_left
    · intro w
      go_simp
      try with_reducible rfl
    simp only [Act.put, List.getElem_toArray, List.getElem_cons_zero, List.getElem_cons_succ, List.setIfInBounds_toArray, List.set_cons_zero, List.set_cons_succ]
    have hn2 := nodeE (HS.out.drew _ _ HN.out)
    obtain ⟨n0, n1, n2, n3, n4, n5, -, -, -, -, -, -, -, -, -, -⟩ := hn2
    obtain ⟨fn, tmps, assign, body, hy, hR⟩ := HY.out (pre ++ sl) ⟨k, v, s⟩ w6.drew HOK.out (HD.out _ _ HJ.out) HLN.out
    dsimp only [encs2] at hy
    have HR := aside hR
    clear hR
    refine wpAnyIn_ready (rs := [14, 19]) (by kernel_rfl) (by simp) ?_
    refine AllReadyIn.cons rfl (fun K hK => ?_) (AllReadyIn.cons rfl (fun K hK => ?_) AllReadyIn.nil)
    · go_simp
      refine hK _ _ ?_
      clear hK K
      refine wpAnyIn_ready (rs := [19]) (by kernel_rfl) (by simp) ?_
      refine AllReadyIn.cons rfl (fun K hK => ?_) AllReadyIn.nil
      go_simp
      refine hK _ _ ?_
      clear hK K
      refine wpAnyIn_ready (rs := [20]) (by kernel_rfl) (by simp) ?_
      refine AllReadyIn.cons rfl (fun K hK => ?_) AllReadyIn.nil
      go_simp
      refine HR.out.mono ?_
      rintro e w7 (⟨rfl, hJ2, hk2⟩ | ⟨rfl, hx2⟩)
      · refine hK _ _ ?_
        clear hK K hy n0 n1 n2 n3 n4 n5
        have HJ2 := aside hJ2
        have HS2 := aside ((HS.out.drew).trans (HKP.out _ _ hk2))
        clear hJ2 hk2
        refine wpAnyIn_take (i := 21) (v := ?_) rfl rfl (by kernel_rfl) (by kernel_rfl) (by kernel_rfl) (fun _ _ _ h => h) ⟨Or.inl ⟨by rfl, ?_⟩, fun _ => rfl⟩ ?_
        rotate_left
        · intro w
          go_simp
          try with_reducible rfl
        simp only [Act.put, List.getElem_toArray, List.getElem_cons_zero, List.getElem_cons_succ, List.setIfInBounds_toArray, List.set_cons_zero, List.set_cons_succ]
        refine wpAnyIn_take (i := 22) (v := ?_) rfl rfl (by kernel_rfl) (by kernel_rfl) (by kernel_rfl) (fun _ _ _ h => h) ⟨Or.inl ⟨by rfl, ?_⟩, fun _ => rfl⟩ ?_
        rotate_left
        · intro w
          go_simp
          try with_reducible rfl
        simp only [Act.put, List.getElem_toArray, List.getElem_cons_zero, List.getElem_cons_succ, List.setIfInBounds_toArray, List.set_cons_zero, List.set_cons_succ]
        refine wpAnyIn_done (by kernel_rfl) ?_ _
        have hn2 := nodeE (HS2.out _ _ HN.out)
        obtain ⟨-, -, -, -, -, -, -, -, -, -, n10, -, -, -, -, -⟩ := hn2
        gi_wp2_with fail
        refine ⟨trivial, ?_⟩
        refine (callsIn_wide.2 (CT'.out _ HS2.out HJ2.out)).mono ?_
        rintro e w8 (⟨rfl, hJ, hs⟩ | ⟨rfl, z, hz, hx⟩)
        · have HJ3 := aside hJ
          have HS3 := aside hs
          clear hJ hs n10
          gi_wp2
          refine bodyPost_ret (v := .bool true) (by simp [results, Tryd.results110, go_sem]) rfl (.inl ⟨rfl, ?_, HS2.out.trans HS3.out⟩)
          have h9 := HJ3.out
          rw [← HA.out]
          simpa [List.append_assoc] using h9
        · have HX := aside hx
          have HZ := aside hz
          clear hx hz n10
          gi_wp2
          refine bodyPost_ret (v := .bool false) (by simp [results, Tryd.results110, go_sem]) rfl (.inr ⟨rfl, z, ?_, HX.out⟩)
          have h9 := HZ.out
          rw [← HA.out]
          simpa [List.append_assoc] using h9
      · refine hK _ _ ?_
        clear hK K hy n0 n1 n2 n3 n4 n5
        have HX := aside hx2
        clear hx2
        refine wpAnyIn_take (i := 21) (v := ?_) rfl rfl (by kernel_rfl) (by kernel_rfl) (by kernel_rfl) (fun _ _ _ h => h) ⟨Or.inl ⟨by rfl, ?_⟩, fun _ => rfl⟩ ?_
        rotate_left
        · intro w
          go_simp
          try with_reducible rfl
        simp only [Act.put, List.getElem_toArray, List.getElem_cons_zero, List.getElem_cons_succ, List.setIfInBounds_toArray, List.set_cons_zero, List.set_cons_succ]
        refine wpAnyIn_take (i := 22) (v := ?_) rfl rfl (by kernel_rfl) (by kernel_rfl) (by kernel_rfl) (fun _ _ _ h => h) ⟨Or.inl ⟨by rfl, ?_⟩, fun _ => rfl⟩ ?_
        rotate_left
        · intro w
          go_simp
          try with_reducible rfl
        simp only [Act.put, List.getElem_toArray, List.getElem_cons_zero, List.getElem_cons_succ, List.setIfInBounds_toArray, List.set_cons_zero, List.set_cons_succ]
        refine wpAnyIn_done (by kernel_rfl) ?_ _
        gi_wp2
        refine bodyPost_ret (v := .bool false) (by simp [results, Tryd.results110, go_sem]) rfl (.inr ⟨rfl, pre ++ sl ++ [⟨k, v, s⟩], ?_, HX.out⟩)
        rw [← HA.out]
        exact ⟨sr, by simp [List.append_assoc]⟩
    · go_simp
      refine hK _ _ ?_
      clear hK K
      refine wpAnyIn_ready (rs := [14]) (by kernel_rfl) (by simp) ?_
      refine AllReadyIn.cons rfl (fun K hK => ?_) AllReadyIn.nil
      go_simp
      refine hK _ _ ?_
      clear hK K
      refine wpAnyIn_ready (rs := [20]) (by kernel_rfl) (by simp) ?_
      refine AllReadyIn.cons rfl (fun K hK => ?_) AllReadyIn.nil
      go_simp
      refine HR.out.mono ?_
      rintro e w7 (⟨rfl, hJ2, hk2⟩ | ⟨rfl, hx2⟩)
      · refine hK _ _ ?_
        clear hK K hy n0 n1 n2 n3 n4 n5
        have HJ2 := aside hJ2
        have HS2 := aside ((HS.out.drew).trans (HKP.out _ _ hk2))
        clear hJ2 hk2
        refine wpAnyIn_take (i := 21) (v := ?_) rfl rfl (by kernel_rfl) (by kernel_rfl) (by kernel_rfl) (fun _ _ _ h => h) ⟨Or.inl ⟨by rfl, ?_⟩, fun _ => rfl⟩ ?_
        rotate_left
        · intro w
          go_simp
          try with_reducible rfl
        simp only [Act.put, List.getElem_toArray, List.getElem_cons_zero, List.getElem_cons_succ, List.setIfInBounds_toArray, List.set_cons_zero, List.set_cons_succ]
        refine wpAnyIn_take (i := 22) (v := ?_) rfl rfl (by kernel_rfl) (by kernel_rfl) (by kernel_rfl) (fun _ _ _ h => h) ⟨Or.inl ⟨by rfl, ?_⟩, fun _ => rfl⟩ ?_
        rotate_left
        · intro w
          go_simp
          try with_reducible rfl
        simp only [Act.put, List.getElem_toArray, List.getElem_cons_zero, List.getElem_cons_succ, List.setIfInBounds_toArray, List.set_cons_zero, List.set_cons_succ]
        refine wpAnyIn_done (by kernel_rfl) ?_ _
        have hn2 := nodeE (HS2.out _ _ HN.out)
        obtain ⟨-, -, -, -, -, -, -, -, -, -, n10, -, -, -, -, -⟩ := hn2
        gi_wp2_with fail
        refine ⟨trivial, ?_⟩
        refine (callsIn_wide.2 (CT'.out _ HS2.out HJ2.out)).mono ?_
        rintro e w8 (⟨rfl, hJ, hs⟩ | ⟨rfl, z, hz, hx⟩)
        · have HJ3 := aside hJ
          have HS3 := aside hs
          clear hJ hs n10
          gi_wp2
          refine bodyPost_ret (v := .bool true) (by simp [results, Tryd.results110, go_sem]) rfl (.inl ⟨rfl, ?_, HS2.out.trans HS3.out⟩)
          have h9 := HJ3.out
          rw [← HA.out]
          simpa [List.append_assoc] using h9
        · have HX := aside hx
          have HZ := aside hz
          clear hx hz n10
          gi_wp2
          refine bodyPost_ret (v := .bool false) (by simp [results, Tryd.results110, go_sem]) rfl (.inr ⟨rfl, z, ?_, HX.out⟩)
          have h9 := HZ.out
          rw [← HA.out]
          simpa [List.append_assoc] using h9
      · refine hK _ _ ?_
        clear hK K hy n0 n1 n2 n3 n4 n5
        have HX := aside hx2
        clear hx2
        refine wpAnyIn_take (i := 21) (v := ?_) rfl rfl (by kernel_rfl) (by kernel_rfl) (by kernel_rfl) (fun _ _ _ h => h) ⟨Or.inl ⟨by rfl, ?_⟩, fun _ => rfl⟩ ?_
        rotate_left
        · intro w
          go_simp
          try with_reducible rfl
        simp only [Act.put, List.getElem_toArray, List.getElem_cons_zero, List.getElem_cons_succ, List.setIfInBounds_toArray, List.set_cons_zero, List.set_cons_succ]
        refine wpAnyIn_take (i := 22) (v := ?_) rfl rfl (by kernel_rfl) (by kernel_rfl) (by kernel_rfl) (fun _ _ _ h => h) ⟨Or.inl ⟨by rfl, ?_⟩, fun _ => rfl⟩ ?_
        rotate_left
        · intro w
          go_simp
          try with_reducible rfl
        simp only [Act.put, List.getElem_toArray, List.getElem_cons_zero, List.getElem_cons_succ, List.setIfInBounds_toArray, List.set_cons_zero, List.set_cons_succ]
        refine wpAnyIn_done (by kernel_rfl) ?_ _
        gi_wp2
        refine bodyPost_ret (v := .bool false) (by simp [results, Tryd.results110, go_sem]) rfl (.inr ⟨rfl, pre ++ sl ++ [⟨k, v, s⟩], ?_, HX.out⟩)
        rw [← HA.out]
        exact ⟨sr, by simp [List.append_assoc]⟩
end Go.Proofs.YtlbkcndmljlnmaaDoor

/-
  The iterator of Due: what it hands to a loop's body.
-/
import Derived.Test.YtoajgacofmodoaaTmU
import Derived.Test.YtoajgacofmodoaaTeLoopX
namespace Go.Proofs.Ytoajgacofmodoaa
open Go.RowKit Go.Shelf
set_option linter.unusedVariables false

attribute [local go_sem] Oper.semAt_some
/-- An alarm as two values. -/
def encA (x : Alm) : Array Value := #[.agg #[.int .i64 x.1.1, .int .i64 x.1.2.1, .int .i64 x.1.2.2], .int .i64 x.2]
/-- What the iterator reads. -/
structure DD (d : Nat) (a : Option Addr) (n c : Nat) (l : List Alm) (W : World) : Prop where
  bx : W.heap[d]? = some (.cells #[.slice a n c] 65 (0, 0))
  al : AlIn 62 W a n c l
theorem DD.keep {d : Nat} {a : Option Addr} {n c : Nat} {l : List Alm} {W W' : World} (h : DD d a n c l W) (b : Below W.heap.size W W') : DD d a n c l W' := ⟨blk_on h.bx b, h.al.on b⟩
theorem DD.keeps {S : Nat → Prop} {d : Nat} {a : Option Addr} {n c : Nat} {l : List Alm} {W W' : World} (h : DD d a n c l W) (k : Keeps S W W') (h1 : ∀ i cs, W.heap[i]? = some (.cells cs 65 (0, 0)) → ¬ S i) (h2 : ∀ i cs, W.heap[i]? = some (.cells cs 62 (0, 0)) → ¬ S i) : DD d a n c l W' := ⟨blk_keep h.bx k (h1 _ _ h.bx), h.al.keep k h2⟩
theorem AlIn.own {e : TypeId} {w w' : World} {row : Option Nat} {a : Option Addr} {n cap : Nat} {l : List Alm} (h : AlIn e w a n cap l) (hg : w.grownBy w' row) (hr : ∀ r, row = some r → ∃ o : Obj, w.heap[r]? = some o ∧ o.isCells = false) : AlIn e w' a n cap l := by
  refine h.keep (S := fun k => row = some k) ((Keeps.refl _ w).grown hg (fun k e _ => e)) (fun i cs hi e => ?_)
  obtain ⟨o, h1, h2⟩ := hr i e
  rw [hi] at h1
  injection h1 with h1
  subst h1
  cases h2
theorem cells_ownA {A B : World} {row : Option Nat} {i : Nat} {cs : Array Value} {T : TypeId} (h : A.heap[i]? = some (.cells cs T (0, 0))) (hg : A.grownBy B row) (hr : ∀ r, row = some r → ∃ o : Obj, A.heap[r]? = some o ∧ o.isCells = false) : B.heap[i]? = some (.cells cs T (0, 0)) := (grownBy_keeps_cells hg hr h rfl).trans h
theorem DD.own {d : Nat} {a : Option Addr} {n c : Nat} {l : List Alm} {W W' : World} {row : Option Nat} (h : DD d a n c l W) (hg : W.grownBy W' row) (hr : ∀ r, row = some r → ∃ o : Obj, W.heap[r]? = some o ∧ o.isCells = false) : DD d a n c l W' := ⟨cells_ownA h.bx hg hr, h.al.own hg hr⟩
/-- What a round leaves to the iterator. -/
def KpD (d : Nat) (a : Option Addr) (n c : Nat) (l : List Alm) (W W' : World) : Prop := DD d a n c l W → DD d a n c l W'
theorem KpD.t {d : Nat} {a : Option Addr} {n c : Nat} {l : List Alm} {X Y Z : World} (h : KpD d a n c l X Y) (k : KpD d a n c l Y Z) : KpD d a n c l X Z := fun s => k (h s)
theorem KpD.b {d : Nat} {a : Option Addr} {n c : Nat} {l : List Alm} (W : World) (i : Nat) (o o' : Obj) (h : W.heap[i]? = some o) (ho : o.isCells = false) : KpD d a n c l W (W.putObj i o') :=
  fun s => s.own (grownBy_putObj' W i o') (fun r e => by cases e; exact ⟨_, h, ho⟩)
theorem grown_belowA {W W' : World} (h : Below W.heap.size W W') : W.grownBy W' none := ⟨h.os, h.tape, h.output, h.size, fun k hk _ => h.block k hk⟩
/-- How a round may end. -/
def wentA (Kp : World → World → Prop) (W : World) (J Jx : List Alm → World → Prop) (xs : List Alm) (q : Bool) (W' : World) : Prop :=
  (q = true ∧ J xs W' ∧ Kp W W') ∨ (q = false ∧ Jx xs W')
set_option maxHeartbeats 8000000 in
set_option maxRecDepth 100000 in
theorem due_in (n : Nat) (hn : 1 ≤ n) (i0 : Nat) (d : Nat) (a : Option Addr) (len c : Nat) (l : List Alm) (J Jx : List Alm → World → Prop)
    (hY : ∀ pre x W, (∃ r, pre ++ x :: r = l) → J pre W → pre.length < l.length → YieldAt Fence.wide (n - 1) Try.prog i0 (encA x) W fun e W' => (e = .returned (.bool true) ∧ J (pre ++ [x]) W' ∧ KpD d a len c l W W') ∨ (e = .returned (.bool false) ∧ Jx (pre ++ [x]) W'))
    (W : World) (hJ : AbidesFrom W.heap.size J) (hS : DD d a len c l W) (h0 : J [] W) :
    CallsIn Fence.wide n Try.prog 27 #[.func (.yield i0) #[] #[], .pointer (some ⟨d, 0, none⟩)] W fun e W' => (∃ v, e = .returned v) ∧
      ((∃ ys, ys = l ∧ J ys W') ∨ (∃ pre, (∃ r, pre ++ r = l) ∧ Jx pre W')) := by
  have HYY := aside hY
  have HJ := aside hJ
  have HS0 := aside hS
  have H0 := aside h0
  have HLN := aside hS.al.1
  have hmx : (len : Int) ≤ 9223372036854775807 := by have h1 := hS.al.2.1; have h2 := hS.al.2.2.1; unfold maxLen at h2; omega
  have s0 := cell_one hS.bx
  clear hY hJ hS h0
  refine callsIn_of_wp Try.func27 rfl trivial ?_ rfl
  simp only [Try.ntmps27, List.size_toArray, List.length_cons, List.length_nil, Nat.reduceAdd, Nat.reduceSub, Array.replicate_succ, Array.replicate_zero, List.push_toArray, List.append_toArray, List.nil_append, List.cons_append]
  gi_wp2_with fail
  gi_loopw [7] (fun u wr => ∃ (k : Nat), u = .int .i64 (k : Int) ∧ k ≤ len ∧ Hid (J (l.take k) wr) ∧ Hid (DD d a len c l wr)) (fun u _ => len - (intOf u).toNat)
  case atStart => exact ⟨0, rfl, Nat.zero_le _, H0.out, HS0.out⟩
  case round =>
    clear s0 HS0 H0
    obtain ⟨k, rfl, hk, HJ1, HS⟩ := hrel
    have hk0 : (0 : Int) ≤ (k : Int) := by omega
    by_cases hlk : (k : Int) < (len : Int)
    · obtain ⟨y, hy⟩ : ∃ y, l[k]? = some y := ⟨l[k]'(by have := HLN.out; omega), List.getElem?_eq_getElem _⟩
      obtain ⟨⟨yo, yl, yk⟩, yt⟩ := y
      have HY := aside hy
      have TK := aside (takeA_snoc hy)
      have PX := aside (show l.take k ++ ((yo, yl, yk), yt) :: l.drop (k + 1) = l from by
        have h9 := List.take_append_drop (k + 1) l
        rw [TK.out] at h9
        simpa using h9)
      rcases HS.out.al.2.2.2 with h9 | ⟨g, cs, rfl, hb, hc⟩
      · omega
      obtain ⟨m0, m1, m2, m3⟩ := hc k _ hy
      have HB9 := aside hb
      clear hb hc hy
      obtain ⟨Z, hZ⟩ : ∃ Z, wr.alloc (.cells #[.int .i64 yo, .int .i64 yl, .int .i64 yk, .int .i64 yt] 62) = Z := ⟨_, rfl⟩
      obtain ⟨q, hq⟩ : ∃ q, wr.heap.size = q := ⟨_, rfl⟩
      have BZ := aside (show Below wr.heap.size wr Z from by rw [← hZ]; exact bnew wr _)
      have KZ := aside (show Z.heap[q]? = some (.cells #[.int .i64 yo, .int .i64 yl, .int .i64 yk, .int .i64 yt] 62 (0, 0)) from by rw [← hZ, ← hq]; exact heap_alloc_new wr _)
      have JY := aside (HJ.out (l.take k) wr _ none HJ1.out (grown_belowA BZ.out) (fun r e => by cases e))
      have SY := aside (HS.out.keep BZ.out)
      obtain ⟨p0, p1, p2, p3⟩ := four KZ.out
      obtain ⟨fn, tmps, assign, body, hy, hR⟩ := HYY.out (l.take k) ((yo, yl, yk), yt) Z ⟨l.drop (k + 1), PX.out⟩ JY.out (by rw [List.length_take]; have := HLN.out; omega)
      dsimp only [encA] at hy
      have hQ := hR.mono (R' := fun e W' => ∃ q : Bool, e = .returned (.bool q) ∧ wentA (KpD d (some ⟨g, 0, none⟩) len c l) Z J Jx (l.take (k + 1)) q W') (fun e W' h => by
        rw [TK.out]
        rcases h with ⟨rfl, h1, h2⟩ | ⟨rfl, h1⟩
        · exact ⟨true, rfl, .inl ⟨rfl, h1, h2⟩⟩
        · exact ⟨false, rfl, .inr ⟨rfl, h1⟩⟩)
      have HQ := aside hQ
      clear hR hQ
      gi_wp2_with fail
      refine HQ.out.mono ?_
      rintro e W3 ⟨q9, rfl, hq9⟩
      clear hy HQ m0 m1 m2 m3 p0 p1 p2 p3 hZ hq
      rcases hq9 with ⟨rfl, hJ3, hk3⟩ | ⟨rfl, hJx3⟩
      · gi_wp2
        go_roundw
        case rel => exact ⟨k + 1, by first | rfl | go_num, by omega, hJ3, hk3 SY.out⟩
        case measure => simp [intOf] <;> omega
      · gi_wp2
        try simp only [Exit.inBlock, Exit.then]
        refine bodyPost_ret (results_none rfl _ _ _) rfl ?_
        exact ⟨⟨_, rfl⟩, .inr ⟨_, ⟨l.drop (k + 1), List.take_append_drop _ _⟩, hJx3⟩⟩
    · have HF := aside (show J l wr from by have h9 := HJ1.out; rwa [List.take_of_length_le (by have := HLN.out; omega)] at h9)
      gi_wp2
      try simp only [Exit.noGoto]
      go_end0
      exact ⟨⟨_, rfl⟩, .inl (by first | exact ⟨_, rfl, HF.out⟩ | exact HF.out)⟩
theorem due_seq {d : Nat} {a : Option Addr} {n c : Nat} {l : List Alm} {w : World} (hS : DD d a n c l w) : SeqX Try.prog 27 #[.pointer (some ⟨d, 0, none⟩)] encA (KpD d a n c l) (fun pre x => ∃ r, pre ++ x :: r = l) (fun ys => ys = l) (fun pre => ∃ r, pre ++ r = l) l.length w :=
  fun m i0 J Jx W hW hJ hJx hY h0 => callsIn_wide.1 (due_in (m + 1) (by omega) i0 d a n c l J Jx (fun pre x W1 hok hp hl => (hY pre x W1 hok hp hl).mono (fun _ _ h => h.2)) W (ownFrom_abides hJ) (hS.keep hW) h0)

end Go.Proofs.Ytoajgacofmodoaa

/-
  A list of one part, by the document.
-/
import Derived.Test.YtpbkjffiohfkcaaGreatDoorBt30
import Derived.Test.YtpbkjffiohfkcaaGreatDoorBt20
import Derived.Test.YtpbkjffiohfkcaaGreatDoorBt25
import Derived.Deep.CutBlock
import Derived.Test.YtpbkjffiohfkcaaGreatDoorBt15
import Derived.Test.YtpbkjffiohfkcaaGreatDoorBt16
import Derived.Test.YtpbkjffiohfkcaaGreatDoorBt22
import Derived.Test.YtpbkjffiohfkcaaGreatDoorBt17
import Derived.Test.YtpbkjffiohfkcaaGreatDoorBt24
import Derived.Deep.Cut
import Derived.Test.YtpbkjffiohfkcaaGreatDoorBt29
namespace Go.Proofs.YtpbkjffiohfkcaaGreatDoor
open Go.RowKit
set_option linter.unusedVariables false
set_option maxHeartbeats 3200000 in
set_option maxRecDepth 100000 in
theorem oneR_any (p : Pm) (w : World) (h : p.In w) :
    Calls Tryz.prog 38 #[.agg #[.int .i64 p.kind, .string p.lo, .string p.hi, .bool p.op, .int .i64 p.cnt, .int .u64 p.s0, .int .u64 p.s1, .slice p.ea p.el p.ec]] w fun e w' => ∃ g c, e = .returned (.slice (some ⟨g, 0, none⟩) 1 c) ∧ PartsIn w' (some ⟨g, 0, none⟩) 1 c (fun _ => p) ∧ w.heap.size ≤ g ∧ Below w.heap.size w w' := by
 have B0 := aside (bnew w (.cells #[.int .i64 p.kind, .string p.lo, .string p.hi, .bool p.op, .int .i64 p.cnt, .int .u64 p.s0, .int .u64 p.s1, .slice p.ea p.el p.ec] 47))
 have K0 := aside (heap_alloc_new w (.cells #[.int .i64 p.kind, .string p.lo, .string p.hi, .bool p.op, .int .i64 p.cnt, .int .u64 p.s0, .int .u64 p.s1, .slice p.ea p.el p.ec] 47))
 have HP := aside h
 clear h
 obtain ⟨w0, hw0⟩ : ∃ w0, w.alloc (.cells #[.int .i64 p.kind, .string p.lo, .string p.hi, .bool p.op, .int .i64 p.cnt, .int .u64 p.s0, .int .u64 p.s1, .slice p.ea p.el p.ec] 47) = w0 := ⟨_, rfl⟩
 rw [hw0] at B0 K0
 have OE := aside (ownP_empty w0 w.heap.size B0.out.size)
 have KE := aside (blk_on K0.out (bnew w0 (.cells #[] 47)))
 have BE := aside (bthen B0.out (bnew w0 (.cells #[] 47)))
 clear K0
 obtain ⟨w1, hw1⟩ : ∃ w1, w0.alloc (.cells #[] 47) = w1 := ⟨_, rfl⟩
 rw [hw1] at OE KE BE
 obtain ⟨p0, p1, p2, p3, p4, p5, p6, p7⟩ := oct KE.out
 have PI := aside (show PartsIn (w1.alloc (.cells #[.int .i64 p.kind, .string p.lo, .string p.hi, .bool p.op, .int .i64 p.cnt, .int .u64 p.s0, .int .u64 p.s1, .slice p.ea p.el p.ec] 47)) (some ⟨w1.heap.size, 0, none⟩) 1 1 (fun _ => p) from ⟨Nat.le_refl _, by unfold maxLen; omega, .inr ⟨w1.heap.size, 0, rfl, by simp, fun i hi => ⟨by
  obtain rfl : i = 0 := by omega
  exact oct (heap_alloc_new w1 (.cells #[.int .i64 p.kind, .string p.lo, .string p.hi, .bool p.op, .int .i64 p.cnt, .int .u64 p.s0, .int .u64 p.s1, .slice p.ea p.el p.ec] 47)), HP.out.keep (bthen BE.out (bnew w1 _))⟩⟩⟩)
 go_enter Tryz.func38, Tryz.ntmps38
 go_wp2_with (at_builtin; go_loud (refine wpList_plain rfl fun K hK => op_append_parts (V := w) _ _ rfl 0 _ [] (by rfl) (OE.out.alloc _) ⟨w1.heap.size, 0, none⟩ 1 1 (fun _ => p) (by rfl) PI.out (by omega) (bthen BE.out (bnew w1 _)) ?_); intro v4 w4 own4 b4 gr4; refine hK _ _ ?_; refine Hid.out ?_)
 refine aside ?_
 rw [show ([] : List Pm) ++ firstP (fun _ => p) 1 = firstP (fun _ => p) 1 from rfl] at own4
 rcases own4.2 with ⟨_, h9⟩ | ⟨g, cap, cur, rfl, h2, h3⟩
 ·omega
 have O4 := aside own4
 have B4 := aside b4
 have HG := aside h2
 clear own4 b4 gr4 h2 h3 p0 p1 p2 p3 p4 p5 p6 p7
 go_wp2
 go_ret
 exact ⟨g, cap, rfl, parts_of_row O4.out (fun i hi => HP.out.keep B4.out), HG.out, B4.out⟩
theorem ptN_all {P : Nat → Pm} : ∀ {n : Nat}, ptN P n = 0 → ∀ i, i < n → ptAt P i = 0 := by
 intro n
 induction n with
 | zero => intro _ i hi; omega
 | succ n ih =>
  intro h i hi
  have h0 : ptN P n = 0 := by
   by_cases g : ptN P n = 0
   ·exact g
   ·rw [ptN_stay g (n + 1) (by omega)] at h; exact absurd h g
  rcases Nat.lt_or_ge i n with g | g
  ·exact ih h0 i g
  ·obtain rfl : i = n := by omega
   rw [← ptN_step h0]; exact h
theorem itN_all {r : Rg} {T : Nat → En} : ∀ {n : Nat}, itN r T n = 0 → ∀ i, i < n → itAt r T i = 0 := by
 intro n
 induction n with
 | zero => intro _ i hi; omega
 | succ n ih =>
  intro h i hi
  have h0 : itN r T n = 0 := by
   by_cases g : itN r T n = 0
   ·exact g
   ·rw [itN_stay g (n + 1) (by omega)] at h; exact absurd h g
  rcases Nat.lt_or_ge i n with g | g
  ·exact ih h0 i g
  ·obtain rfl : i = n := by omega
   rw [← itN_step h0]; exact h
structure GoodP (P : Nat → Pm) (i : Nat) : Prop where
 chk : (P i).rg.chk = 0
 emp : (P i).rg.emp = false
 op : ahOp P i = false
 lo : kLt (P i).lo (ahHi P i) = false
 its : ∀ k, k < (P i).el → itAt (P i).rg (P i).T k = 0
theorem good_of {P : Nat → Pm} {i : Nat} (h : ptAt P i = 0) : GoodP P i := by
 unfold ptAt Pm.chk at h
 cases h1 : (P i).alone
 ·rw [if_pos h1] at h; cases h
 ·rw [if_neg (by simp [h1])] at h
  by_cases h2 : (P i).rg.chk = 0
  ·rw [if_neg (by simp [h2])] at h
   by_cases h3 : (P i).rg.emp = true ∨ ahOp P i = true ∨ kLt (P i).lo (ahHi P i) = true
   ·rw [if_pos h3] at h; cases h
   ·rw [if_neg h3] at h
    refine ⟨h2, ?_, ?_, ?_, ?_⟩
    ·cases e : (P i).rg.emp
     ·rfl
     ·exact absurd (.inl e) h3
    ·cases e : ahOp P i
     ·rfl
     ·exact absurd (.inr (.inl e)) h3
    ·cases e : kLt (P i).lo (ahHi P i)
     ·rfl
     ·exact absurd (.inr (.inr e)) h3
    ·by_cases h4 : (P i).kind = 1
     ·unfold Pm.alone at h1
      rw [if_pos h4] at h1
      intro k hk
      have : (P i).el = 0 := by simpa using h1
      omega
     ·rw [if_neg h4] at h
      unfold Pm.its at h
      by_cases h5 : itN (P i).rg (P i).T (P i).el = 0
      ·exact fun k hk => itN_all h5 k hk
      ·rw [if_pos h5] at h; exact absurd h h5
  ·rw [if_pos h2] at h; exact absurd h h2
theorem goods {P : Nat → Pm} {n : Nat} (h : psChk P n = 0) : n ≤ 768 ∧ totE P n ≤ 256 ∧ ∀ i, i < n → GoodP P i := by
 unfold psChk at h
 by_cases g : 768 < n ∨ 256 < totE P n
 ·rw [if_pos g] at h; cases h
 ·rw [if_neg g] at h
  exact ⟨by omega, by omega, fun i hi => good_of (ptN_all h i hi)⟩
structure Pq where
 kind : Int
 lo : ByteArray
 hi : ByteArray
 op : Bool
 t : Tl
 es : List En
def Pq.pm (q : Pq) (a : Option Addr) (c : Nat) : Pm := ⟨q.kind, q.lo, q.hi, q.op, q.t.n, q.t.a, q.t.b, a, q.es.length, c, nthE q.es⟩
def QAt (B : Nat) (w : World) (m : Pm) (q : Pq) : Prop := m = q.pm m.ea m.ec ∧ w.ownsRow B 77 5 (.slice m.ea q.es.length m.ec) q.es.length (entCells q.es)
def Told (B : Nat) (v : Value) (l : List Pq) (w : World) : Prop :=
 ∃ ms : List Pm, w.ownsRow B 47 8 v ms.length (ptCells ms) ∧ ms.length = l.length ∧ ∀ (i : Nat) (m : Pm) (q : Pq), ms[i]? = some m → l[i]? = some q → QAt B w m q
theorem own_keep {w w' : World} {S : Nat → Prop} {B : Nat} {e : TypeId} {s : Nat} {v : Value} {n : Nat} {xs : List Value} (h : w.ownsRow B e s v n xs) (k : Keeps S w w') (hn : ∀ i cs, w.heap[i]? = some (.cells cs e (0, 0)) → ¬ S i) : w'.ownsRow B e s v n xs := by
 refine ⟨h.1, ?_⟩
 rcases h.2 with h5 | ⟨g2, cap, cur, e1, e2, e3, e4⟩
 ·exact .inl h5
 ·exact .inr ⟨g2, cap, cur, e1, e2, blk_keep e3 k (hn _ _ e3), e4⟩
theorem Told.low {B C : Nat} {v : Value} {l : List Pq} {w : World} (h : Told B v l w) (b : C ≤ B) : Told C v l w := by
 obtain ⟨ms, h1, h2, h3⟩ := h
 exact ⟨ms, own_low h1 b, h2, fun i m q e1 e2 => ⟨(h3 i m q e1 e2).1, own_low (h3 i m q e1 e2).2 b⟩⟩
theorem Told.zero (B : Nat) (w : World) : Told B (.slice none 0 0) [] w :=
 ⟨[], ⟨rfl, .inl ⟨rfl, rfl⟩⟩, rfl, fun i m q e1 e2 => by simp at e1⟩
theorem Told.single {B g : Nat} {q : Pq} {a : Option Addr} {c : Nat} {w : World} (h : w.heap[g]? = some (.cells #[.int .i64 q.kind, .string q.lo, .string q.hi, .bool q.op, .int .i64 q.t.n, .int .u64 q.t.a, .int .u64 q.t.b, .slice a q.es.length c] 47 (0, 0))) (hB : B ≤ g) (he : w.ownsRow B 77 5 (.slice a q.es.length c) q.es.length (entCells q.es)) : Told B (.slice (some ⟨g, 0, none⟩) 1 1) [q] w := by
 refine ⟨[q.pm a c], ⟨rfl, .inr ⟨g, 1, _, rfl, hB, h, Nat.le_refl _, by unfold maxLen; omega, rfl, rfl⟩⟩, rfl, fun i m q' e1 e2 => ?_⟩
 match i, e1, e2 with
 | 0, e1, e2 =>
  simp at e1 e2
  subst e1 e2
  exact ⟨rfl, he⟩
 | i + 1, e1, e2 => simp at e1
theorem firstP_nthP (l : List Pm) : firstP (nthP l) l.length = l := by
 apply List.ext_getElem?
 intro i
 by_cases h : i < l.length
 ·unfold firstP; rw [List.getElem?_map, List.getElem?_range h]; exact (nthP_get h).symm
 ·rw [List.getElem?_eq_none (by rw [firstP_len]; omega), List.getElem?_eq_none (by omega)]
theorem QAt.in {B : Nat} {w : World} {m : Pm} {q : Pq} (h : QAt B w m q) (hk : KeysOk q.es) : m.In w := by
 obtain ⟨h1, h2⟩ := h
 obtain ⟨a, c, e, h3⟩ := own_ents h2 hk
 injection e with e1 e2 e3
 subst e1 e3
 rw [h1]
 exact h3
theorem Told.parts {B : Nat} {v : Value} {l : List Pq} {w : World} (h : Told B v l w) (hk : ∀ q ∈ l, KeysOk q.es) : ∃ a c ms, v = .slice a l.length c ∧ PartsIn w a l.length c (nthP ms) ∧ ms.length = l.length ∧ (∀ i, i < l.length → ∃ q ea ec, l[i]? = some q ∧ nthP ms i = q.pm ea ec) ∧ ((a = none ∧ l.length = 0 ∧ c = 0) ∨ ∃ y, a = some y) := by
 obtain ⟨ms, h1, h2, h3⟩ := h
 obtain ⟨a, c, rfl, g1, g2, g3⟩ := own_slice h1
 rw [h2] at h1 g1 g3 ⊢
 have hm : ∀ i, i < l.length → ∃ q, l[i]? = some q ∧ QAt B w (nthP ms i) q := fun i hi => ⟨l[i], List.getElem?_eq_getElem hi, h3 i _ _ (nthP_get (by omega)) (List.getElem?_eq_getElem hi)⟩
 refine ⟨a, c, ms, rfl, ?_, h2, fun i hi => ?_, ?_⟩
 ·rcases g3 with ⟨rfl, e, rfl⟩ | ⟨g, rfl, -⟩
  ·rw [e]; exact ⟨Nat.le_refl _, Nat.zero_le _, .inl rfl⟩
  ·refine parts_of_row (B := B) ?_ (fun i hi => ?_)
   ·rw [← h2, firstP_nthP, h2]; exact h1
   ·obtain ⟨q, e1, e2⟩ := hm i hi
    exact e2.in (hk q (List.mem_of_getElem? e1))
 ·obtain ⟨q, e1, e2⟩ := hm i hi
  exact ⟨q, _, _, e1, e2.1⟩
 ·rcases g3 with g3 | ⟨g, rfl, -⟩
  ·exact .inl g3
  ·exact .inr ⟨_, rfl⟩
def prQ (Ls : List En) (r : Rg) : Pq := ⟨1, r.lo, r.hi, r.op, foldV r.lo r.hi r.op Ls, []⟩
def keysIn (r : Rg) (Ls : List En) : List ByteArray := (thruL r.lo r.hi r.op true Ls).map (fun e => e.k)
def cutR (r : Rg) (Ls : List En) (q i : Nat) : Rg := piece r (bdr (keysIn r Ls).length (q + 1) (nthS (keysIn r Ls))) q i
def spQ (r : Rg) (Ls : List En) (q : Nat) : List Pq := (List.range (q + 1)).map (fun i => prQ Ls (cutR r Ls q i))
def cmpQ (b lf : Int) (r : Rg) (cnt s0 s1 : Int) (Ls : List En) : List Pq :=
 if (foldV r.lo r.hi r.op Ls).n = cnt ∧ (foldV r.lo r.hi r.op Ls).a = s0 ∧ (foldV r.lo r.hi r.op Ls).b = s1 then []
 else if (foldV r.lo r.hi r.op Ls).n ≤ lf then [⟨2, r.lo, r.hi, r.op, tZero, thruL r.lo r.hi r.op true Ls⟩]
 else spQ r Ls ((min b (foldV r.lo r.hi r.op Ls).n).toNat - 1)
theorem thru_inL {lo hi : ByteArray} {op : Bool} {l : List En} (h : Rg.chk ⟨lo, hi, op⟩ = 0) (hm : MapL l) : thruL lo hi op true l = inL ⟨lo, hi, op⟩ l := by
 rw [inL_thru h hm]
 unfold thruL
 rw [List.filter_eq_self]
 intro e _
 rfl
theorem thru_true (lo hi : ByteArray) (op : Bool) (Ls : List En) : thruL lo hi op true Ls = Ls.filter (inR lo hi op) := by
 unfold thruL
 rw [List.filter_eq_self]
 intro e _
 rfl
theorem keysR_in {T : Tr En Tl} {Ls : List En} {r : Rg} (hH : Hol T Ls) (h : r.op = true ∨ kLt r.hi r.lo = false) : keysR T r.lo r.hi r.op Ls = keysIn r Ls := by
 unfold keysR keysIn spanL
 rw [thru_true]
 have h1 := belE_le r.lo Ls
 have h2 := endE_le r.hi r.op Ls
 rw [show (max (belE r.lo Ls : Int) 0).toNat = belE r.lo Ls from by omega, show (min (endE r.hi r.op Ls : Int) (T.cnt : Int)).toNat = endE r.hi r.op Ls from by rw [hH.cnt]; omega, hH.rows, seg_map, seg_range hH.rises h, List.map_map]
 rfl
theorem keysIn_len (r : Rg) (Ls : List En) : (keysIn r Ls).length = (thruL r.lo r.hi r.op true Ls).length := by unfold keysIn; rw [List.length_map]
theorem keysIn_le (r : Rg) (Ls : List En) : (keysIn r Ls).length ≤ Ls.length := by rw [keysIn_len]; exact thru_len _ _ _ _
theorem fold_n {r : Rg} {Ls : List En} (hc : r.chk = 0) (hl : Ls.length ≤ 1000000) : (foldV r.lo r.hi r.op Ls).n = ((keysIn r Ls).length : Int) := by
 unfold foldV
 rw [if_pos hc, keysIn_len, thru_true]
 exact tal_n _ (by have := List.length_filter_le (inR r.lo r.hi r.op) Ls; omega)
theorem nthS_get {l : List ByteArray} {i : Nat} (h : i < l.length) : l[i]? = some (nthS l i) := by
 unfold nthS; rw [List.getD, List.getElem?_eq_getElem h]; rfl
theorem keysIn_at {r : Rg} {Ls : List En} {i : Nat} (h : i < (keysIn r Ls).length) : ∃ e, (Ls.filter (inR r.lo r.hi r.op))[i]? = some e ∧ nthS (keysIn r Ls) i = e.k ∧ e ∈ Ls ∧ inR r.lo r.hi r.op e = true := by
 have h1 := nthS_get h
 unfold keysIn at h1
 rw [List.getElem?_map, thru_true] at h1
 obtain ⟨e, e1, e2⟩ := Option.map_eq_some_iff.1 h1
 have := List.mem_filter.1 (List.mem_of_getElem? e1)
 exact ⟨e, e1, by unfold keysIn; rw [thru_true]; exact e2.symm, this.1, this.2⟩
theorem keysIn_up {r : Rg} {Ls : List En} (hm : MapL Ls) : KeysUp (nthS (keysIn r Ls)) (keysIn r Ls).length := by
 constructor
 ·intro i hi
  obtain ⟨e, -, e2, e3, -⟩ := keysIn_at hi
  rw [e2]
  have := (chk_pos (hm.chk e e3)).2.1
  omega
 ·intro i j hij hj
  obtain ⟨e, e1, e2, -, -⟩ := keysIn_at (r := r) (Ls := Ls) (i := i) (by omega)
  obtain ⟨f, f1, f2, -, -⟩ := keysIn_at hj
  rw [e2, f2]
  have hp : (Ls.filter (inR r.lo r.hi r.op)).Pairwise (fun a b => kLt a.k b.k = true) := hm.rises.sublist List.filter_sublist
  obtain ⟨hi', rfl⟩ := List.getElem?_eq_some_iff.1 e1
  obtain ⟨hj', rfl⟩ := List.getElem?_eq_some_iff.1 f1
  exact List.pairwise_iff_getElem.1 hp i j hi' hj' hij
theorem may_of_chk {r : Rg} (h : r.chk = 0) : r.may = true := by unfold Rg.may; rw [h]; rfl
theorem keysIn_has {r : Rg} {Ls : List En} (hm : MapL Ls) (hc : r.chk = 0) : ∀ i, i < (keysIn r Ls).length → r.has (nthS (keysIn r Ls) i) = true := by
 intro i hi
 obtain ⟨e, -, e2, e3, e4⟩ := keysIn_at hi
 rw [e2]
 unfold inR at e4
 rw [Bool.and_eq_true] at e4
 unfold Rg.has
 rw [may_of_chk hc]
 have := (chk_pos (hm.chk e e3)).2.1
 rw [Bool.true_and, Bool.and_eq_true, Bool.and_eq_true]
 exact ⟨⟨decide_eq_true (by omega), e4.1⟩, e4.2⟩
theorem chk_of_may {r : Rg} (h : r.may = true) : r.chk = 0 := by
 unfold Rg.may at h
 simpa using h
theorem cut_ok {r : Rg} {Ls : List En} (hm : MapL Ls) (hc : r.chk = 0) {q : Nat} (hq : q + 1 ≤ (keysIn r Ls).length) {i : Nat} (hi : i < q + 1) : prErr (cutR r Ls q i) = 0 := by
 have h := pieces_up (keysIn_up (r := r) hm) (keysIn_has hm hc) hq
 have h1 : (cutR r Ls q i).may = true := rises_may h hi
 have h2 : (cutR r Ls q i).emp = false := by
  simp only [rises, Bool.and_eq_true, Bool.not_eq_true'] at h
  cases he : (cutR r Ls q i).emp
  ·rfl
  ·have h9 := anyE_true (T := cutR r Ls q) (j := i) hi he
   exact absurd (h9.symm.trans h.1) (by simp)
 unfold prErr
 rw [if_neg (by rw [chk_of_may h1]; simp), if_neg (by rw [h2]; simp)]
theorem keys_keyE {r : Rg} {Ls : List En} (hm : MapL Ls) : keyE (nthS (keysIn r Ls)) (keysIn r Ls).length = 0 := keyE_zero (keysIn_up hm)
theorem keys_allK {r : Rg} {Ls : List En} (hm : MapL Ls) (hc : r.chk = 0) : allK r (nthS (keysIn r Ls)) (keysIn r Ls).length = true := allK_true (keysIn_has hm hc)
set_option maxHeartbeats 3200000 in
set_option maxRecDepth 100000 in
theorem qsplit_ok (r : Rg) (q : Nat) {w : World} {sb g tb : Nat} {nd ck : Int} {Ls : List En} (h : Sto w sb g tb nd ck Ls) (hm : MapL Ls) (hl : Ls.length ≤ 256) (hc : r.chk = 0) (hq : q + 1 ≤ (keysIn r Ls).length) :
    Calls Tryz.prog 94 #[.pointer (some ⟨sb, 0, none⟩), .agg #[.string r.lo, .string r.hi, .bool r.op], .int .i64 ((q : Int) + 1)] w fun e w' => ∃ g cp, e = .returned (.tuple #[.slice (some ⟨g, 0, none⟩) (q + 1) cp, .int .i64 0]) ∧ w'.ownsRow w.heap.size 40 3 (.slice (some ⟨g, 0, none⟩) (q + 1) cp) (q + 1) (rgCells (cutR r Ls q) (q + 1)) ∧ Below w.heap.size w w' := by
 obtain ⟨T, n, h1, hH⟩ := h
 have hk := keysR_in (r := r) hH (chk_may hc)
 refine (ssplit r.lo r.hi r.op ((q : Int) + 1) h1 hH (by omega) (fun W v c X => c = 0 ∧ ∃ g cp, v = .slice (some ⟨g, 0, none⟩) (q + 1) cp ∧ X.ownsRow W.heap.size 40 3 (.slice (some ⟨g, 0, none⟩) (q + 1) cp) (q + 1) (rgCells (cutR r Ls q) (q + 1))) ?_ ?_).mono ?_
 ·rintro V v c X D ⟨e1, g2, cp, e2, e3⟩ - hD
  refine ⟨e1, g2, cp, e2, e3.1, ?_⟩
  rcases e3.2 with h5 | ⟨g3, cap, cur, f1, f2, f3, f4⟩
  ·exact .inl h5
  ·refine .inr ⟨g3, cap, cur, f1, f2, ?_, f4⟩
   exact (World.putObj_heap_other (fun e => by subst e; rw [hD] at f3; cases f3)).trans f3
 ·intro W a m c b hs hlen
  rw [hk] at hs hlen
  subst hlen
  refine (ranges_ok r.lo r.hi r.op a (keysIn r Ls).length c _ q W hs hc (keys_keyE hm) (keys_allK hm hc) hq (Nat.le_trans (keysIn_le _ _) hl)).mono ?_
  rintro e w' ⟨g2, cp, rfl, o, -, b2⟩
  exact ⟨_, _, rfl, ⟨rfl, g2, cp, rfl, o⟩, b2⟩
 ·rintro e w' ⟨W, v, c, rfl, ⟨rfl, g2, cp, rfl, o⟩, hs, b⟩
  exact ⟨g2, cp, rfl, own_low o hs, b⟩
def prV (lo hi : ByteArray) (op : Bool) (t : Tl) (q : Int) : Value := if q = 0 then .agg #[.int .i64 1, .string lo, .string hi, .bool op, .int .i64 t.n, .int .u64 t.a, .int .u64 t.b, .slice none 0 0] else .agg #[.int .i64 0, .string ⟨#[]⟩, .string ⟨#[]⟩, .bool false, .int .i64 0, .int .u64 0, .int .u64 0, .slice none 0 0]
set_option maxHeartbeats 3200000 in
set_option maxRecDepth 100000 in
theorem printOf_any (lo hi : ByteArray) (op : Bool) {w : World} {sb g tb : Nat} {nd ck : Int} {Ls : List En} (h : Sto w sb g tb nd ck Ls) (L : Lanes w) (hl : Ls.length ≤ 1000000) :
    Calls Tryz.prog 58 #[.pointer (some ⟨sb, 0, none⟩), .agg #[.string lo, .string hi, .bool op]] w fun e w' => e = .returned (.agg #[.int .i64 1, .string lo, .string hi, .bool op, .int .i64 (foldV lo hi op Ls).n, .int .u64 (foldV lo hi op Ls).a, .int .u64 (foldV lo hi op Ls).b, .slice none 0 0]) ∧ Sto w' sb g tb nd ck Ls ∧ Keeps (Of sb g tb) w w' ∧ Lanes w' := by
 have BX := aside (bthen (bnew w (.cells #[.string lo, .string hi, .bool op] 40)) (bnew _ (.cells #[.int .i64 0, .string ⟨#[]⟩, .string ⟨#[]⟩, .bool false, .int .i64 0, .int .u64 0, .int .u64 0, .slice none 0 0] 47)))
 have KR0 := aside (blk_on (heap_alloc_new w (.cells #[.string lo, .string hi, .bool op] 40)) (bnew _ (.cells #[.int .i64 0, .string ⟨#[]⟩, .string ⟨#[]⟩, .bool false, .int .i64 0, .int .u64 0, .int .u64 0, .slice none 0 0] 47)))
 have KZ := aside (heap_alloc_new (w.alloc (.cells #[.string lo, .string hi, .bool op] 40)) (.cells #[.int .i64 0, .string ⟨#[]⟩, .string ⟨#[]⟩, .bool false, .int .i64 0, .int .u64 0, .int .u64 0, .slice none 0 0] 47))
 rw [World.size_alloc] at KZ
 have CF := aside (qfold lo hi op (h.below BX.out) (L.keep BX.out) hl)
 have HX := aside (h.below BX.out)
 have HLT := aside h.lt
 generalize foldV lo hi op Ls = t at *
 clear h L hl
 go_enter Tryz.func58, Tryz.ntmps58
 go_wp2_with fail
 refine CF.out.mono ?_
 rintro e w1 ⟨rfl, s1, k1, l1⟩
 have HN1 := HX.out.not KR0.out (by decide) (by decide) (by decide)
 have HN2 := HX.out.not KZ.out (by decide) (by decide) (by decide)
 have KR1 := aside (blk_keep KR0.out k1 HN1)
 have KZ1 := aside (blk_keep KZ.out k1 HN2)
 have S1 := aside s1
 have L1 := aside l1
 have K1 := aside ((Keeps.of_below BX.out _).trans k1)
 clear s1 l1 k1 HN1 HN2 KR0 KZ CF HX BX
 obtain ⟨fb, hfb⟩ : ∃ fb, w.heap.size = fb := ⟨_, rfl⟩
 rw [hfb] at KR1 KZ1 ⊢
 obtain ⟨r0, r1, r2⟩ := box3r KR1.out
 go_upto_region 2 with fail
 clear r0 r1 r2
 have HNL : ¬ fb + 1 < w.heap.size := by omega
 have KZ2 := aside (blk_on KZ1.out (bnew w1 (.cells #[.int .i64 t.n, .int .u64 t.a, .int .u64 t.b] 45)))
 have KR2 := aside (blk_on KR1.out (bnew w1 (.cells #[.int .i64 t.n, .int .u64 t.a, .int .u64 t.b] 45)))
 have KT2 := aside (heap_alloc_new w1 (.cells #[.int .i64 t.n, .int .u64 t.a, .int .u64 t.b] 45))
 have KA := aside (K1.out.alloc (.cells #[.int .i64 t.n, .int .u64 t.a, .int .u64 t.b] 45))
 have SA := aside (S1.out.below (bnew w1 (.cells #[.int .i64 t.n, .int .u64 t.a, .int .u64 t.b] 45)))
 have LA := aside (L1.out.keep (bnew w1 (.cells #[.int .i64 t.n, .int .u64 t.a, .int .u64 t.b] 45)))
 have HL0 : ¬ 0 = fb + 1 := by omega
 clear KZ1 K1 S1 L1 KR1
 generalize w1.alloc (.cells #[.int .i64 t.n, .int .u64 t.a, .int .u64 t.b] 45) = W2 at *
 generalize w1.heap.size = tb2 at *
 obtain ⟨r0, r1, r2⟩ := box3r KR2.out
 obtain ⟨p0, p1, p2⟩ := box3r KT2.out
 obtain ⟨a0, a1, a2, a3, a4, a5, a6, a7, hkz⟩ : ∃ a0 a1 a2 a3 a4 a5 a6 a7 : Value, W2.heap[fb + 1]? = some (Obj.cells #[a0, a1, a2, a3, a4, a5, a6, a7] 47 (0, 0)) := ⟨_, _, _, _, _, _, _, _, KZ2.out⟩
 clear KZ2
 have KZ2 := aside hkz
 clear hkz
 obtain ⟨z0, z1, z2, z3, z4, z5, z6, z7⟩ := oct8 KZ2.out
 have y0 := frozen_of_row _ _ 0 _ _ KZ2.out
 have y1 := frozen_of_row _ _ 1 _ _ KZ2.out
 have y2 := frozen_of_row _ _ 2 _ _ KZ2.out
 have y3 := frozen_of_row _ _ 3 _ _ KZ2.out
 have y4 := frozen_of_row _ _ 4 _ _ KZ2.out
 have y5 := frozen_of_row _ _ 5 _ _ KZ2.out
 have y6 := frozen_of_row _ _ 6 _ _ KZ2.out
 have y7 := frozen_of_row _ _ 7 _ _ KZ2.out
 have KR := (set_in 7 (.slice none 0 0) (set_in 6 (.int .u64 t.b) (set_in 5 (.int .u64 t.a) (set_in 4 (.int .i64 t.n) (set_in 3 (.bool op) (set_in 2 (.string hi) (set_in 1 (.string lo) (set_in 0 (.int .i64 1) KZ2.out))))))))
 simp only [List.setIfInBounds_toArray, List.set_cons_zero, List.set_cons_succ] at KR
 have HKR := aside KR
 clear KR
 have KF := aside (((((((((Keeps.refl (fun x => x = fb + 1) W2).setCell (p := ⟨fb + 1, 0, none⟩) (fun _ => rfl) (.int .i64 1)).setCell (p := ⟨fb + 1, 1, none⟩) (fun _ => rfl) (.string lo)).setCell (p := ⟨fb + 1, 2, none⟩) (fun _ => rfl) (.string hi)).setCell (p := ⟨fb + 1, 3, none⟩) (fun _ => rfl) (.bool op)).setCell (p := ⟨fb + 1, 4, none⟩) (fun _ => rfl) (.int .i64 t.n)).setCell (p := ⟨fb + 1, 5, none⟩) (fun _ => rfl) (.int .u64 t.a)).setCell (p := ⟨fb + 1, 6, none⟩) (fun _ => rfl) (.int .u64 t.b)).setCell (p := ⟨fb + 1, 7, none⟩) (fun _ => rfl) (.slice none 0 0))
 have KW := aside ((((((((KA.out.setCell (p := ⟨fb + 1, 0, none⟩) (fun hh => absurd hh HNL) (.int .i64 1)).setCell (p := ⟨fb + 1, 1, none⟩) (fun hh => absurd hh HNL) (.string lo)).setCell (p := ⟨fb + 1, 2, none⟩) (fun hh => absurd hh HNL) (.string hi)).setCell (p := ⟨fb + 1, 3, none⟩) (fun hh => absurd hh HNL) (.bool op)).setCell (p := ⟨fb + 1, 4, none⟩) (fun hh => absurd hh HNL) (.int .i64 t.n)).setCell (p := ⟨fb + 1, 5, none⟩) (fun hh => absurd hh HNL) (.int .u64 t.a)).setCell (p := ⟨fb + 1, 6, none⟩) (fun hh => absurd hh HNL) (.int .u64 t.b)).setCell (p := ⟨fb + 1, 7, none⟩) (fun hh => absurd hh HNL) (.slice none 0 0))
 have SF := aside (SA.out.set KZ2.out (by decide) (by decide) (by decide) (by decide) KF.out)
 have LF := aside (LA.out.keeps KF.out (fun e => HL0 e))
 go_wp2
 clear r0 r1 r2 p0 p1 p2
 obtain ⟨r0, r1, r2, r3, r4, r5, r6, r7⟩ := oct8 HKR.out
 exact bodyPost_ret (v := .agg #[.int .i64 1, .string lo, .string hi, .bool op, .int .i64 t.n, .int .u64 t.a, .int .u64 t.b, .slice none 0 0]) (by simp [results, Tryz.results58, go_sem, r0, r1, r2, r3, r4, r5, r6, r7]) rfl ⟨rfl, SF.out, KW.out, LF.out⟩
def inB (b l : Int) : Bool := decide (2 ≤ b ∧ b ≤ 16 ∧ 1 ≤ l ∧ l ≤ 32)
set_option maxHeartbeats 3200000 in
set_option maxRecDepth 100000 in
theorem inb_any (b l : Int) (w : World) : Calls Tryz.prog 31 #[.int .i64 b, .int .i64 l] w fun e w' => e = .returned (.bool (inB b l)) ∧ Below w.heap.size w w' := by
 by_cases h1 : 2 ≤ b
 ·by_cases h2 : b ≤ 16
  ·by_cases h3 : 1 ≤ l
   ·by_cases h4 : l ≤ 32
    ·rw [show inB b l = true from by unfold inB; simp; omega]
     go_enter Tryz.func31, Tryz.ntmps31
     go_wp2
     go_ret
     exact ⟨rfl, Below.refl _ _⟩
    ·rw [show inB b l = false from by unfold inB; simp; omega]
     go_enter Tryz.func31, Tryz.ntmps31
     go_wp2
     go_ret
     exact ⟨rfl, Below.refl _ _⟩
   ·rw [show inB b l = false from by unfold inB; simp; omega]
    go_enter Tryz.func31, Tryz.ntmps31
    go_wp2
    go_ret
    exact ⟨rfl, Below.refl _ _⟩
  ·rw [show inB b l = false from by unfold inB; simp; omega]
   go_enter Tryz.func31, Tryz.ntmps31
   go_wp2
   go_ret
   exact ⟨rfl, Below.refl _ _⟩
 ·rw [show inB b l = false from by unfold inB; simp; omega]
  go_enter Tryz.func31, Tryz.ntmps31
  go_wp2
  go_ret
  exact ⟨rfl, Below.refl _ _⟩
set_option maxHeartbeats 3200000 in
set_option maxRecDepth 100000 in
theorem compare_same (b lf : Int) (p : Pm) {w : World} {sb g tb : Nat} {nd ck : Int} {Ls : List En} (h : Sto w sb g tb nd ck Ls) (L : Lanes w) (hl : Ls.length ≤ 1000000) (hn : (foldV p.lo p.hi p.op Ls).n = p.cnt) (ha : (foldV p.lo p.hi p.op Ls).a = p.s0) (hb : (foldV p.lo p.hi p.op Ls).b = p.s1) :
    Calls Tryz.prog 32 #[.pointer (some ⟨sb, 0, none⟩), .int .i64 b, .int .i64 lf, .agg #[.int .i64 p.kind, .string p.lo, .string p.hi, .bool p.op, .int .i64 p.cnt, .int .u64 p.s0, .int .u64 p.s1, .slice p.ea p.el p.ec]] w fun e w' => e = .returned (.slice none 0 0) ∧ Sto w' sb g tb nd ck Ls ∧ Keeps (Of sb g tb) w w' ∧ Lanes w' := by
 have BX := aside (bnew w (.cells #[.int .i64 p.kind, .string p.lo, .string p.hi, .bool p.op, .int .i64 p.cnt, .int .u64 p.s0, .int .u64 p.s1, .slice p.ea p.el p.ec] 47))
 have KX := aside (heap_alloc_new w (.cells #[.int .i64 p.kind, .string p.lo, .string p.hi, .bool p.op, .int .i64 p.cnt, .int .u64 p.s0, .int .u64 p.s1, .slice p.ea p.el p.ec] 47))
 have HX := aside (h.below BX.out)
 have CF := aside (printOf_any p.lo p.hi p.op HX.out (L.keep BX.out) hl)
 rw [hn, ha, hb] at CF
 clear h L hl hn ha hb
 obtain ⟨pb, hpb⟩ : ∃ pb, w.heap.size = pb := ⟨_, rfl⟩
 rw [hpb] at KX
 obtain ⟨X, hX⟩ : ∃ X, w.alloc (.cells #[.int .i64 p.kind, .string p.lo, .string p.hi, .bool p.op, .int .i64 p.cnt, .int .u64 p.s0, .int .u64 p.s1, .slice p.ea p.el p.ec] 47) = X := ⟨_, rfl⟩
 rw [hX] at BX KX HX CF
 obtain ⟨p0, p1, p2, p3, p4, p5, p6, p7⟩ := oct KX.out
 go_enter Tryz.func32, Tryz.ntmps32
 go_wp2_with fail
 refine CF.out.mono ?_
 rintro e w1 ⟨rfl, s1, k1, l1⟩
 have K1 := aside (blk_on (blk_keep KX.out k1 (HX.out.not KX.out (by decide) (by decide) (by decide))) (bnew w1 (.cells #[.int .i64 p.cnt, .int .u64 p.s0, .int .u64 p.s1] 45)))
 have KT := aside (heap_alloc_new w1 (.cells #[.int .i64 p.cnt, .int .u64 p.s0, .int .u64 p.s1] 45))
 have S1 := aside (s1.below (bnew w1 (.cells #[.int .i64 p.cnt, .int .u64 p.s0, .int .u64 p.s1] 45)))
 have L1 := aside (l1.keep (bnew w1 (.cells #[.int .i64 p.cnt, .int .u64 p.s0, .int .u64 p.s1] 45)))
 have KK := aside (((Keeps.of_below BX.out _).trans k1).alloc (.cells #[.int .i64 p.cnt, .int .u64 p.s0, .int .u64 p.s1] 45))
 clear s1 l1 k1 CF HX BX KX p0 p1 p2 p3 p4 p5 p6 p7 hX
 obtain ⟨tb2, htb⟩ : ∃ tb2, w1.heap.size = tb2 := ⟨_, rfl⟩
 rw [htb] at KT
 obtain ⟨X2, hX2⟩ : ∃ X2, w1.alloc (.cells #[.int .i64 p.cnt, .int .u64 p.s0, .int .u64 p.s1] 45) = X2 := ⟨_, rfl⟩
 rw [hX2] at K1 KT S1 L1 KK
 obtain ⟨p0, p1, p2, p3, p4, p5, p6, p7⟩ := oct K1.out
 obtain ⟨t0, t1, t2⟩ := box3r KT.out
 have SQ : ∀ W, (binOp .eql 45 (.agg #[.int .i64 p.cnt, .int .u64 p.s0, .int .u64 p.s1]) (.agg #[.int .i64 p.cnt, .int .u64 p.s0, .int .u64 p.s1])).run Tryz.prog W = .ok (.bool true) W := fun W => tal_same _ _ _ W
 have FD : ∀ W, (Instr.field 47 (.agg #[.int .i64 1, .string p.lo, .string p.hi, .bool p.op, .int .i64 p.cnt, .int .u64 p.s0, .int .u64 p.s1, .slice none 0 0]) 2).run Tryz.prog W = .ok (.agg #[.int .i64 p.cnt, .int .u64 p.s0, .int .u64 p.s1]) W := fun W => by first | rfl | kernel_rfl
 go_wp2
 go_ret
 exact ⟨rfl, S1.out, KK.out, L1.out⟩
def cErr (b lf : Int) (p : Pm) : Int := if inB b lf = false then 1 else if psChk (fun _ => p) 1 ≠ 0 then psChk (fun _ => p) 1 else if p.kind = 1 then 0 else 114
theorem cErr_ok {b lf : Int} {p : Pm} (h : cErr b lf p = 0) : inB b lf = true ∧ psChk (fun _ => p) 1 = 0 ∧ p.kind = 1 ∧ p.rg.chk = 0 := by
 unfold cErr at h
 cases hb : inB b lf
 ·rw [if_pos hb] at h; cases h
 ·rw [if_neg (by rw [hb]; simp)] at h
  by_cases h1 : psChk (fun _ => p) 1 = 0
  ·rw [if_neg (by simp [h1])] at h
   by_cases h2 : p.kind = 1
   ·obtain ⟨-, g2, g3⟩ := goods h1
    exact ⟨rfl, h1, h2, (g3 0 (by omega)).chk⟩
   ·rw [if_neg h2] at h; cases h
  ·rw [if_pos h1] at h; exact absurd h h1
theorem inB_bounds {b lf : Int} (h : inB b lf = true) : 2 ≤ b ∧ b ≤ 16 ∧ 1 ≤ lf ∧ lf ≤ 32 := by unfold inB at h; simpa using h
theorem cmpQ_same {b lf : Int} {r : Rg} {cnt s0 s1 : Int} {Ls : List En} (h : (foldV r.lo r.hi r.op Ls).n = cnt ∧ (foldV r.lo r.hi r.op Ls).a = s0 ∧ (foldV r.lo r.hi r.op Ls).b = s1) : cmpQ b lf r cnt s0 s1 Ls = [] := by unfold cmpQ; rw [if_pos h]
theorem cmpQ_items {b lf : Int} {r : Rg} {cnt s0 s1 : Int} {Ls : List En} (h : ¬ ((foldV r.lo r.hi r.op Ls).n = cnt ∧ (foldV r.lo r.hi r.op Ls).a = s0 ∧ (foldV r.lo r.hi r.op Ls).b = s1)) (h2 : (foldV r.lo r.hi r.op Ls).n ≤ lf) : cmpQ b lf r cnt s0 s1 Ls = [⟨2, r.lo, r.hi, r.op, tZero, thruL r.lo r.hi r.op true Ls⟩] := by unfold cmpQ; rw [if_neg h, if_pos h2]
theorem cmpQ_split {b lf : Int} {r : Rg} {cnt s0 s1 : Int} {Ls : List En} (h : ¬ ((foldV r.lo r.hi r.op Ls).n = cnt ∧ (foldV r.lo r.hi r.op Ls).a = s0 ∧ (foldV r.lo r.hi r.op Ls).b = s1)) (h2 : ¬ (foldV r.lo r.hi r.op Ls).n ≤ lf) : cmpQ b lf r cnt s0 s1 Ls = spQ r Ls ((min b (foldV r.lo r.hi r.op Ls).n).toNat - 1) := by unfold cmpQ; rw [if_neg h, if_neg h2]
theorem tal_eqB {t : Tl} {n a b : Int} : (t.n == n && (t.a == a && t.b == b)) = decide (t.n = n ∧ t.a = a ∧ t.b = b) := by
 by_cases h1 : t.n = n <;> by_cases h2 : t.a = a <;> by_cases h3 : t.b = b <;> simp [h1, h2, h3]
theorem min_cut {b lf n : Int} (hb : inB b lf = true) (h : ¬ n ≤ lf) : ∃ q : Nat, min b n = (q : Int) + 1 ∧ (min b n).toNat - 1 = q ∧ (q : Int) + 1 ≤ n := by
 obtain ⟨h1, h2, h3, h4⟩ := inB_bounds hb
 exact ⟨(min b n - 1).toNat, by omega, by omega, by omega⟩
end Go.Proofs.YtpbkjffiohfkcaaGreatDoor

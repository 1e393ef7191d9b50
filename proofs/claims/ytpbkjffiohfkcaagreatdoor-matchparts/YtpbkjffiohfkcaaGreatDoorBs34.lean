/-
  Plain mathematics: keys that rise within a range, and the ranges of its split.
-/
import Derived.Test.YtpbkjffiohfkcaaGreatDoorBs32
import Derived.Test.YtpbkjffiohfkcaaGreatDoorBs33
import Derived.Test.YtpbkjffiohfkcaaGreatDoorBs24
import Derived.Test.YtpbkjffiohfkcaaGreatDoorBs18
import Derived.Test.YtpbkjffiohfkcaaGreatDoorBs26
import Derived.Test.YtpbkjffiohfkcaaGreatDoorBs17
namespace Go.Proofs.YtpbkjffiohfkcaaGreatDoor
open Go.RowKit
set_option linter.unusedVariables false
def allK (r : Rg) (S : Nat → ByteArray) (n : Nat) : Bool := (List.range n).all fun i => r.has (S i)
theorem allK_true {r : Rg} {S : Nat → ByteArray} {n : Nat} (h : ∀ i, i < n → r.has (S i) = true) : allK r S n = true := by
 unfold allK
 rw [List.all_eq_true]
 exact fun i hi => h i (List.mem_range.1 hi)
theorem allK_false {r : Rg} {S : Nat → ByteArray} {n i : Nat} (hi : i < n) (h : r.has (S i) = false) : allK r S n = false := by
 unfold allK
 rw [List.all_eq_false]
 exact ⟨i, List.mem_range.2 hi, by simp [h]⟩
theorem allK_at {r : Rg} {S : Nat → ByteArray} {n : Nat} (h : allK r S n = true) {i : Nat} (hi : i < n) : r.has (S i) = true := by
 unfold allK at h
 rw [List.all_eq_true] at h
 exact h i (List.mem_range.2 hi)
structure KeysUp (S : Nat → ByteArray) (n : Nat) : Prop where
 sz : ∀ i, i < n → ((S i).size : Int) ≤ 16
 up : ∀ i j, i < j → j < n → Op.bytesLess (S i).toList (S j).toList = true
theorem keysOk {S : Nat → ByteArray} {n : Nat} (h : keyE S n = 0) : KeysUp S n := by
 unfold keyE at h
 cases h1 : longK S n
 ·rw [h1] at h
  cases h2 : riseK S n
  ·rw [h2] at h; cases h
  ·unfold longK at h1
   unfold riseK at h2
   rw [List.any_eq_false] at h1
   rw [List.all_eq_true] at h2
   have st : ∀ i, i + 1 < n → Op.bytesLess (S i).toList (S (i + 1)).toList = true := fun i hi => h2 i (List.mem_range.2 (by omega))
   refine ⟨fun i hi => by have := h1 i (List.mem_range.2 hi); simp at this; omega, ?_⟩
   intro i j hij hj
   obtain ⟨d, rfl⟩ : ∃ d, j = i + d + 1 := ⟨j - i - 1, by omega⟩
   induction d with
   | zero => exact st i hj
   | succ d ih => exact L_trans _ _ _ (ih (by omega) (by omega)) (st (i + d + 1) hj)
 ·rw [h1] at h; cases h
theorem keyE_zero {S : Nat → ByteArray} {n : Nat} (h : KeysUp S n) : keyE S n = 0 := by
 unfold keyE
 rw [longK_false h.sz, riseK_true (fun k hk => h.up k (k + 1) (Nat.lt_succ_self k) hk)]
 rfl
theorem L_le_lt {x y z : List UInt8} (h : Op.bytesLess y x = false) (h2 : Op.bytesLess y z = true) : Op.bytesLess x z = true := by
 cases h3 : Op.bytesLess x y
 ·rw [L_total x y h3 h]; exact h2
 ·exact L_trans x y z h3 h2
theorem has_parts {r : Rg} {k : ByteArray} (h : r.has k = true) : r.may = true ∧ (k.size : Int) ≤ 16 ∧ Op.bytesLess k.toList r.lo.toList = false ∧ (r.op || Op.bytesLess k.toList r.hi.toList) = true := by
 simp only [Rg.has, Bool.and_eq_true, decide_eq_true_eq, Bool.not_eq_true'] at h
 exact ⟨h.1.1.1, h.1.1.2, h.1.2, h.2⟩
theorem stt_up {n p : Nat} (hp : 0 < p) (hpn : p ≤ n) {i j : Nat} (h : i < j) : stt n p i < stt n p j := by
 obtain ⟨d, rfl⟩ : ∃ d, j = i + d + 1 := ⟨j - i - 1, by omega⟩
 have h1 := div_pos' hp hpn
 induction d with
 | zero => have := (stt_step n hp i).1; show stt n p i < stt n p (i + 1); omega
 | succ d ih => have := (stt_step n hp (i + d + 1)).1; have := ih (by omega); show stt n p i < stt n p (i + d + 1 + 1); omega
theorem bdr_ok {r : Rg} {S : Nat → ByteArray} {n q : Nat} (hk : KeysUp S n) (ha : ∀ i, i < n → r.has (S i) = true) (hq : q + 1 ≤ n) : ∀ i, i < q → okB r (cutLo r.lo (bdr n (q + 1) S) i) (bdr n (q + 1) S i) = true := by
 intro i hi
 have hx : stt n (q + 1) (i + 1) < n := stt_lt (by omega) (by omega) (by omega)
 have h0 := has_parts (ha _ hx)
 have hl : Op.bytesLess (cutLo r.lo (bdr n (q + 1) S) i).toList (S (stt n (q + 1) (i + 1))).toList = true := by
  cases i with
  | zero =>
   show Op.bytesLess r.lo.toList _ = true
   have h1 := has_parts (ha 0 (by omega))
   have h2 := stt_up (n := n) (p := q + 1) (by omega) hq (i := 0) (j := 1) (by omega)
   rw [stt_zero] at h2
   exact L_le_lt h1.2.2.1 (hk.up 0 _ h2 hx)
  | succ i =>
   show Op.bytesLess (S (stt n (q + 1) (i + 1))).toList _ = true
   exact hk.up _ _ (stt_up (by omega) hq (by omega)) hx
 show okB r _ (S (stt n (q + 1) (i + 1))) = true
 unfold okB
 rw [hl, h0.2.2.2, decide_eq_true h0.2.1]
 rfl
theorem pieces_rise {r : Rg} {S : Nat → ByteArray} {n q : Nat} (hk : KeysUp S n) (ha : ∀ i, i < n → r.has (S i) = true) (hq : q + 1 ≤ n) (h0 : 0 < q) : rises (piece r (bdr n (q + 1) S) q) (q + 1) = true :=
 (rises_cut (has_parts (ha 0 (by omega))).1 h0).2 (bdr_ok hk ha hq)
theorem pieces_up {r : Rg} {S : Nat → ByteArray} {n q : Nat} (hk : KeysUp S n) (ha : ∀ i, i < n → r.has (S i) = true) (hq : q + 1 ≤ n) : rises (piece r (bdr n (q + 1) S) q) (q + 1) = true := by
 rcases Nat.eq_zero_or_pos q with h0 | h0
 ·subst h0
  exact rises_one (has_not_emp (ha 0 (by omega)))
 ·exact pieces_rise hk ha hq h0
theorem rises_may {T : Nat → Rg} {n j : Nat} (h : rises T n = true) (hj : j < n) : (T j).may = true := by
 simp only [rises, Bool.and_eq_true, Bool.not_eq_true'] at h
 cases he : (T j).may
 ·rw [anyE_true (j := j) hj (emp_of_not_may he)] at h; cases h.1
 ·rfl
theorem box_after {w X : World} {lo hi : ByteArray} {op : Bool} (b : Below (w.alloc (.cells #[.string lo, .string hi, .bool op] 40)).heap.size (w.alloc (.cells #[.string lo, .string hi, .bool op] 40)) X) :
    X.heap[w.heap.size]? = some (.cells #[.string lo, .string hi, .bool op] 40 (0, 0)) ∧ Below w.heap.size w X :=
 ⟨keep (heap_alloc_new w _) b, bthen (bnew w _) b⟩
set_option maxRecDepth 100000 in
set_option maxHeartbeats 3200000 in
theorem allHeld_any (lo hi : ByteArray) (op : Bool) (a : Option Addr) (n cap : Nat) (S : Nat → ByteArray) (w : World) (h : StrsIn w.heap.size w a n cap S) :
    Calls Tryz.prog 137 #[.agg #[.string lo, .string hi, .bool op], .slice a n cap] w fun e w' => e = .returned (.bool (allK ⟨lo, hi, op⟩ S n)) ∧ Below w.heap.size w w' := by
 have hlc := h.1
 have hl16 := h.2.1
 have HH := aside h.2.2
 clear h
 go_enter Tryz.func137, Tryz.ntmps137
 go_wp2
 go_loopw [9] (fun i wr => ∃ k : Nat, k ≤ n ∧ i = .int .i64 (k : Int) ∧ Hid (∀ j, j < k → Rg.has ⟨lo, hi, op⟩ (S j) = true) ∧ Hid (Below (w.alloc (.cells #[.string lo, .string hi, .bool op] 40)).heap.size (w.alloc (.cells #[.string lo, .string hi, .bool op] 40)) wr)) (fun i _ => n - (intOf i).toNat)
 case atStart => exact ⟨0, Nat.zero_le _, rfl, fun j hj => by omega, Below.refl _ _⟩
 case round =>
  obtain ⟨k, hk, rfl, hall, HB⟩ := hrel
  obtain ⟨hbx, hnx⟩ := box_after HB.out
  have HX := aside hnx
  obtain ⟨⟨q0, q1, q2⟩, -⟩ := box_out hbx
  by_cases hlt : (k : Int) < (n : Int)
  ·rcases HH.out with hh | ⟨b, off, rfl, hb, hc⟩
   ·omega
   have c0 := (hnx.cell (p := ⟨b, off + k, none⟩) hb).trans (hc k (by omega))
   have hk0 : (0 : Int) ≤ (k : Int) := by omega
   have hqw : IntKind.i64.wrap ((k : Int) + 1) = (k : Int) + 1 := by rw [IntKind.wrap_i64]; omega
   clear hc hnx hbx
   obtain ⟨x, hx⟩ : ∃ x, Rg.has ⟨lo, hi, op⟩ (S k) = x := ⟨_, rfl⟩
   have HC := aside (fun w => holds_any lo hi op (S k) w)
   rw [hx] at HC
   go_wp2_with fail
   refine (HC.out _).mono ?_
   rintro e w1 ⟨rfl, b1⟩
   have B1 := aside (HB.out.trans (b1.mono HB.out.size))
   clear b1 HC
   cases x
   ·have HF := aside (allK_false (r := ⟨lo, hi, op⟩) (S := S) (n := n) (by omega) hx)
    clear q0 q1 q2 c0
    go_wp2
    go_ret
    exact ⟨by rw [HF.out]; rfl, (box_after B1.out).2⟩
   ·have HA := aside (show ∀ j, j < k + 1 → Rg.has ⟨lo, hi, op⟩ (S j) = true from fun j hj => by
      by_cases e : j = k
      ·rw [e]; exact hx
      ·exact hall.out j (by omega))
    clear q0 q1 q2 c0
    go_wp2
    go_roundw
    case rel => exact ⟨k + 1, by omega, by go_num, HA, B1⟩
    case measure => simp [intOf]; omega
  ·obtain rfl : n = k := by omega
   have HT := aside (allK_true hall.out)
   clear hnx hbx q0 q1 q2
   go_wp2
   go_ret
   exact ⟨by rw [HT.out]; rfl, HX.out⟩
set_option maxHeartbeats 3200000 in
set_option maxRecDepth 100000 in
theorem ranges_ok (lo hi : ByteArray) (op : Bool) (a : Option Addr) (n cap : Nat) (S : Nat → ByteArray) (q : Nat) (w : World) (h : StrsIn w.heap.size w a n cap S) (hch : Rg.chk ⟨lo, hi, op⟩ = 0) (hke : keyE S n = 0) (hal : allK ⟨lo, hi, op⟩ S n = true) (hqn : q + 1 ≤ n) (hn : n ≤ 256) :
    Calls Tryz.prog 118 #[.agg #[.string lo, .string hi, .bool op], .slice a n cap, .int .i64 ((q : Int) + 1)] w fun e w' => ∃ g cp, e = .returned (.tuple #[.slice (some ⟨g, 0, none⟩) (q + 1) cp, .int .i64 0]) ∧ w'.ownsRow w.heap.size 40 3 (.slice (some ⟨g, 0, none⟩) (q + 1) cp) (q + 1) (rgCells (piece ⟨lo, hi, op⟩ (bdr n (q + 1) S) q) (q + 1)) ∧ g < w'.heap.size ∧ Below w.heap.size w w' := by
 have HS := aside h
 clear h
 have HM := aside (show Rg.may ⟨lo, hi, op⟩ = true from by unfold Rg.may; rw [hch]; rfl)
 have HR := aside (fun h0 : 0 < q => pieces_rise (r := ⟨lo, hi, op⟩) (keysOk hke) (fun i hi => allK_at hal hi) hqn h0)
 have HC := aside (rgCells_congr (f := piece ⟨lo, hi, op⟩ (bdr n (0 + 1) S) 0) (g := fun _ => ⟨lo, hi, op⟩) (n := 1) (fun i hi' => by have e : i = 0 := (by omega); rw [e]; rfl))
 go_enter Tryz.func118, Tryz.ntmps118
 go_wp2_with fail
 refine (check_at hch _).mono ?_
 rintro e w1 ⟨rfl, b1⟩
 have X1 := aside b1
 clear b1
 obtain ⟨hbx, hnx⟩ := box_after X1.out
 obtain ⟨⟨q0, q1, q2⟩, -⟩ := box_out hbx
 have B1 := aside hnx
 clear hbx hnx
 go_wp2_with fail
 refine (checkKeys_any a n cap S _ (HS.out.up B1.out B1.out.size)).mono ?_
 rw [hke]
 rintro e w2 ⟨rfl, b2⟩
 have X2 := aside (X1.out.trans (b2.mono X1.out.size))
 clear b2 q0 q1 q2
 obtain ⟨hbx, hnx⟩ := box_after X2.out
 obtain ⟨⟨q0, q1, q2⟩, -⟩ := box_out hbx
 have B2 := aside hnx
 clear hbx hnx
 go_wp2_with fail
 refine (allHeld_any lo hi op a n cap S _ (HS.out.up B2.out B2.out.size)).mono ?_
 rw [hal]
 rintro e w3 ⟨rfl, b3⟩
 have X3 := aside (X2.out.trans (b3.mono X2.out.size))
 clear b3 q0 q1 q2
 obtain ⟨hbx, hnx⟩ := box_after X3.out
 obtain ⟨⟨q0, q1, q2⟩, -⟩ := box_out hbx
 have B3 := aside hnx
 clear hbx hnx
 go_wp2_with fail
 refine (bordersOf_any a n cap q S _ (HS.out.up B3.out B3.out.size) hqn hn).mono ?_
 rintro e w4 ⟨g4, c4, rfl, o4, l4, b4⟩
 have O4 := aside o4
 have X4 := aside (X3.out.trans (b4.mono X3.out.size))
 clear b4 o4 l4 q0 q1 q2
 obtain ⟨hbx, hnx⟩ := box_after X4.out
 obtain ⟨⟨q0, q1, q2⟩, -⟩ := box_out hbx
 have B4 := aside hnx
 clear hbx hnx
 rcases Nat.eq_zero_or_pos q with h0 | h0
 ·subst h0
  go_wp2_with fail
  refine (split_none lo hi op (some ⟨g4, 0, none⟩) c4 _ HM.out).mono ?_
  rintro e w5 ⟨g, cp, rfl, o5, l5, b5⟩
  have O5 := aside o5
  have B5 := aside (bthen B4.out b5)
  clear o5 b5 q0 q1 q2
  go_wp2
  exact bodyPost_ret (v := .tuple #[.slice (some ⟨g, 0, none⟩) 1 cp, .int .i64 0]) (by simp [results, Tryz.results118, go_sem]) rfl ⟨g, cp, rfl, by rw [HC.out]; exact row_base O5.out B4.out.size, l5, B5.out⟩
 ·go_wp2_with fail
  refine (split_yes lo hi op (some ⟨g4, 0, none⟩) q c4 (bdr n (q + 1) S) _ HM.out (strs_own O4.out (by omega)) (by omega) h0 (HR.out h0)).mono ?_
  rintro e w5 ⟨g, cp, rfl, o5, l5, b5⟩
  have O5 := aside o5
  have B5 := aside (bthen B4.out b5)
  clear o5 b5 q0 q1 q2
  go_wp2
  exact bodyPost_ret (v := .tuple #[.slice (some ⟨g, 0, none⟩) (q + 1) cp, .int .i64 0]) (by simp [results, Tryz.results118, go_sem]) rfl ⟨g, cp, rfl, row_base O5.out B4.out.size, l5, B5.out⟩
end Go.Proofs.YtpbkjffiohfkcaaGreatDoor
namespace Go.Proofs.YtpbkjffiohfkcaaGreatDoor
open Go.RowKit Go.Shelf
set_option linter.unusedVariables false
attribute [local go_sem] Oper.semAt_some
structure LstS (B : Nat) (vb : Nat) (l : List ByteArray) (X : World) : Prop where
 ex : ∃ v, X.heap[vb]? = some (.cells #[v] 143 (0, 0)) ∧ X.ownsRow B 9 1 v l.length (strCells l)
theorem LstS.own {B vb : Nat} {l : List ByteArray} {A X : World} {row : Option Nat} (h : LstS B vb l A) (hg : A.grownBy X row) (hr : ∀ r, row = some r → ∃ o : Obj, A.heap[r]? = some o ∧ o.isCells = false) : LstS B vb l X := by
 obtain ⟨v, h1, h2⟩ := h.ex
 exact ⟨v, cells_own h1 hg hr, ownsRow_own h2 hg hr⟩
theorem row_blkS {X : World} {B n : Nat} {v : Value} {xs : List Value} (h : X.ownsRow B 9 1 v n xs) {r : Nat} (hr : v.ownBlock = some r) : B ≤ r ∧ ∃ cs, X.heap[r]? = some (.cells cs 9 (0, 0)) := by
 rcases h.2 with ⟨rfl, -⟩ | ⟨g, cap, cur, rfl, hb, hgk, -⟩
 ·cases hr
 ·cases hr; exact ⟨hb, _, hgk⟩
theorem lst_stepS {w X X1 : World} {vb C : Nat} {l : List ByteArray} {x : ByteArray} {v v' : Value} {o : Obj} (hB : Below w.heap.size w X) (hvb : w.heap.size ≤ vb) (h1 : X.heap[vb]? = some (.cells #[v] 143 (0, 0))) (h2 : X.ownsRow w.heap.size 9 1 v l.length (strCells l))
    (ho : X1.ownsRow w.heap.size 9 1 v' (l.length + 1) (strCells l ++ [.string x])) (hg : (X.alloc o).grownBy X1 v.ownBlock) :
    X1.heap[vb]? = some (.cells #[v] 143 (0, 0)) ∧ LstS w.heap.size vb (l ++ [x]) (X1.setCell ⟨vb, 0, none⟩ v') ∧ Below w.heap.size w (X1.setCell ⟨vb, 0, none⟩ v') ∧ KeepsFrom C X (X1.setCell ⟨vb, 0, none⟩ v') ∧ KpT X (X1.setCell ⟨vb, 0, none⟩ v') := by
 have hne : some vb ≠ v.ownBlock := fun e => by
  obtain ⟨-, cs, h3⟩ := row_blkS h2 e.symm
  rw [h1] at h3; simp at h3
 have hvb1 : X1.heap[vb]? = some (.cells #[v] 143 (0, 0)) := by
  rw [hg.block vb (by have := lt_of_blk h1; simp; omega) hne]
  exact blk_on h1 (bnew _ _)
 have st : ∀ T, T ≠ 9 → T ≠ 143 → Stay T X (X1.setCell ⟨vb, 0, none⟩ v') := fun T n1 n2 => by
  refine (((Stay.refl T X).alloc o).grown hg ?_).setCell _ (fun cs e => by dsimp only at e; rw [hvb1] at e; simp at e; exact n2 e.2.symm)
  intro r e cs hcs
  obtain ⟨-, cs', h3⟩ := row_blkS h2 e
  rw [blk_on h3 (bnew _ _)] at hcs
  simp at hcs
  exact n1 hcs.2.symm
 refine ⟨hvb1, ⟨v', by rw [heap_setCell_same X1 vb 0 _ _ v' hvb1]; rfl, ?_⟩, ?_, ?_, st _ (by decide) (by decide), st _ (by decide) (by decide), st _ (by decide) (by decide)⟩
 ·have e : strCells (l ++ [x]) = strCells l ++ [.string x] := by simp [strCells]
  rw [List.length_append, e]
  refine ownsRow_keep (S := fun i => i = vb) ho ((Keeps.refl (fun i => i = vb) X1).setCell (p := ⟨vb, 0, none⟩) (fun _ => rfl) _) (fun j e1 e2 => ?_)
  subst e2
  obtain ⟨-, cs, h3⟩ := row_blkS ho e1
  rw [hvb1] at h3; simp at h3
 ·exact (((hB.alloc hB.size o).grown hg (by have := hB.size; simp; omega) (fun j e => (row_blkS h2 e).1)).setCell (p := ⟨vb, 0, none⟩) hvb _)
 ·have k1 : KeepsFrom C (X.alloc o) X1 := ⟨hg.size, fun i ob _ hi hob => (hg.block i (Array.getElem?_eq_some_iff.1 hi).1 (fun e => by
    obtain ⟨-, cs, h3⟩ := row_blkS h2 e.symm
    rw [blk_on h3 (bnew _ _)] at hi
    injection hi with hi
    subst hi
    cases hob)).trans hi⟩
  exact ((KeepsFrom.of_grownBy (World.grownBy_alloc X o none) (fun j e => by cases e)).trans k1).trans ((KeepsOthers.setCell _ _ _).from _)
theorem infoStrS : (Tryz.prog.info? 9).map (fun i => (i.zero, i.size, i.bytes)) = some (some (.string ⟨#[]⟩), 1, 16) := by kernel_rfl
def nthS (l : List ByteArray) (i : Nat) : ByteArray := l.getD i ⟨#[]⟩
theorem upto_nth (l : List ByteArray) : strUpto (nthS l) l.length = l := by
 apply List.ext_getElem?
 intro i
 by_cases h : i < l.length
 ·simp [strUpto, nthS, h]
 ·simp [strUpto, h]
theorem strs_row {w : World} {B n : Nat} {a : Option Addr} {c : Nat} {l : List ByteArray} (h : w.ownsRow B 9 1 (.slice a n c) n (strCells l)) (hl : l.length = n) (hn : n ≤ 1000000) : StrsIn w.heap.size w a n c (nthS l) := by
 obtain ⟨_, _, e1, h2, h3, hf⟩ := own_slice h
 injection e1 with e1 _ e3
 subst e1 e3
 rcases hf with ⟨rfl, rfl, rfl⟩ | ⟨g, rfl, -⟩
 ·exact ⟨Nat.le_refl _, Nat.zero_le _, .inl rfl⟩
 ·refine strs_own (B := B) ?_ (by omega)
  rw [← hl, upto_nth, hl]
  exact h
def keysR (T : Tr En Tl) (lo hi : ByteArray) (op : Bool) (Ls : List En) : List ByteArray := (spanL T (belE lo Ls : Int) (endE hi op Ls : Int)).map (fun r => r.k)
set_option maxHeartbeats 8000000 in
set_option maxRecDepth 100000 in
theorem ssplit (lo hi : ByteArray) (op : Bool) (p : Int) {Ls : List En} {w : World} {sb g tb : Nat} {nd ck : Int} {T : Tr En Tl} {n : Nat} (h : IsSt w sb g tb nd ck T n) (hH : Hol T Ls) (hl : Ls.length ≤ 1000000) (R : World → Value → Int → World → Prop)
    (hown : ∀ V v c (X : World) (D : Nat), R V v c X → V.heap.size ≤ X.heap.size → X.heap[D]? = some (.deferred (some [])) → R V v c (X.putObj D (.deferred none)))
    (hC : ∀ (W : World) (a : Option Addr) (m c : Nat), Below w.heap.size w W → StrsIn W.heap.size W a m c (nthS (keysR T lo hi op Ls)) → (keysR T lo hi op Ls).length = m → Calls Tryz.prog 118 #[.agg #[.string lo, .string hi, .bool op], .slice a m c, .int .i64 p] W fun e W' => ∃ v c, e = .returned (.tuple #[v, .int .i64 c]) ∧ R W v c W' ∧ Below W.heap.size W W') :
    Calls Tryz.prog 94 #[.pointer (some ⟨sb, 0, none⟩), .agg #[.string lo, .string hi, .bool op], .int .i64 p] w fun e w' => ∃ W v c, e = .returned (.tuple #[v, .int .i64 c]) ∧ R W v c w' ∧ w.heap.size ≤ W.heap.size ∧ Below w.heap.size w w' := by
 have B0 := aside (bnew w (.cells #[.string lo, .string hi, .bool op] 40))
 have K0 := aside (heap_alloc_new w (.cells #[.string lo, .string hi, .bool op] 40))
 have H := aside (h.below B0.out)
 have CR := aside (fun (W : World) (h : IsSt W sb g tb nd ck T n) => srows lo hi op h hH hl)
 have HH := aside hH
 have HLE := aside hl
 have HC := aside hC
 clear h hH hl hC
 refine (callsIn_wide (n := 7)).1 ?_
 refine callsIn_of_wp_marks Tryz.func94 rfl trivial ?_ rfl
 simp only [Tryz.ntmps94, List.size_toArray, List.length_cons, List.length_nil, Nat.reduceAdd, Nat.reduceSub, Array.replicate_succ, Array.replicate_zero, List.push_toArray, List.append_toArray, List.nil_append, List.cons_append]
 obtain ⟨r0, r1, r2, -⟩ := tri K0.out
 gi_wp2_with fail
 refine ⟨trivial, ?_⟩
 refine (callsIn_wide.2 (CR.out _ H.out)).mono ?_
 rintro e w1 ⟨rfl, b1⟩
 replace B0 := aside (bthen B0.out b1)
 replace K0 := aside (blk_on K0.out b1)
 replace H := aside (H.out.below b1)
 obtain ⟨rb, hrb⟩ : ∃ rb, w.heap.size = rb := ⟨_, rfl⟩
 have HRB := aside hrb
 rw [hrb] at K0 ⊢
 have bV := bnew w1 (.cells #[.slice none 0 0] 143)
 have KV := aside (heap_alloc_new w1 (.cells #[.slice none 0 0] 143))
 replace B0 := aside (bthen B0.out bV)
 replace K0 := aside (blk_on K0.out bV)
 replace H := aside (H.out.below bV)
 obtain ⟨vb, hvb⟩ : ∃ vb, w1.heap.size = vb := ⟨_, rfl⟩
 have HVB := aside (show w.heap.size ≤ vb from by rw [← hvb]; have h1 := b1.size; rw [World.size_alloc] at h1; omega)
 obtain ⟨-, -, -, c3, -⟩ := quad H.out.blk
 obtain ⟨pp, ht, hT⟩ := H.out.tree
 have HT := aside hT
 have CS := aside (yspan (belE lo Ls : Int) (endE hi op Ls : Int) ht)
 clear b1 bV r0 r1 r2 hrb ht hT CR
 gi_wp2_with fail
 refine ⟨trivial, ?_⟩
 refine (callsIn_wide.2 (CS.out)).mono ?_
 rintro e w3 ⟨lbS, rfl, hs, b3⟩
 have HS := aside hs
 rw [hvb] at KV
 replace KV := aside (blk_on KV.out b3)
 replace K0 := aside (blk_on K0.out b3)
 replace B0 := aside (bthen B0.out b3)
 replace HT := aside (HT.out.on (fun _ _ e => blk_on e b3))
 clear hs b3 CS c3 hvb H
 gi_wp2_with fail
 have hcn := HH.out.cnt
 have hle := HLE.out
 have hsp : (spanL T (belE lo Ls : Int) (endE hi op Ls : Int)).length ≤ 1000000 := by
  unfold spanL seg
  have := Tr.rows_length T
  simp only [List.length_drop, List.length_take]
  omega
 have HSP := aside hsp
 have SQ := aside (SeqO.of_stops fun n => span1 (Kp := KpT) HS.out HT.out (by omega) (by have := endE_le hi op Ls; omega) (Nat.le_refl _) (fun A B h => h.1))
 have I0 := aside (show LstS w.heap.size vb [] w3 from ⟨.slice none 0 0, KV.out, ⟨rfl, .inl ⟨rfl, rfl⟩⟩⟩)
 have HVV := aside (show w.heap.size ≤ w3.heap.size from B0.out.size)
 have K0V := aside K0.out
 have HKS := aside (show keysR T lo hi op Ls = (spanL T (belE lo Ls : Int) (endE hi op Ls : Int)).map (fun r => r.k) from rfl)
 clear hcn hle hsp KV
 have ownI : OwnFrom w3.heap.size (fun (pre : List (Rw En Tl)) X => LstS w.heap.size vb (pre.map (fun r => r.k)) X ∧ X.heap[rb]? = some (.cells #[.string lo, .string hi, .bool op] 40 (0, 0)) ∧ Below w.heap.size w X) := fun s A Y row hs hg hr =>
  ⟨hs.1.own hg (fun r e => (hr r e).2), cells_own hs.2.1 hg (fun r e => (hr r e).2), ownFrom_below (β := Unit) (Nat.le_refl w.heap.size) HVV.out () A Y row hs.2.2 hg hr⟩
 refine rangeO rfl (enters_of Tryz.func124 (by kernel_rfl) rfl) SQ.out KpT.t (fun W l o o' _ h ho => KpT.b W l o o' h ho) (Below.refl _ _) (fun _ => rfl)
  (fun (pre : List (Rw En Tl)) X => LstS w.heap.size vb (pre.map (fun r => r.k)) X ∧ X.heap[rb]? = some (.cells #[.string lo, .string hi, .bool op] 40 (0, 0)) ∧ Below w.heap.size w X) (fun _ _ _ => False) ownI (fun _ _ _ _ _ h => h.elim) ⟨I0.out, K0.out, B0.out⟩
  (fun x a' X => a' = ⟨#[.pointer (some ⟨sb, 0, none⟩), .agg #[.string lo, .string hi, .bool op], .int .i64 p, undef, .pointer (some ⟨rb, 0, none⟩), undef, .slice none 0 0, .int .i64 0, .int .i64 (belE lo Ls : Int), .int .i64 (endE hi op Ls : Int), .pointer (some ⟨vb, 0, none⟩), .string x.k, .tuple #[.int .i64 (belE lo Ls : Int), .int .i64 (endE hi op Ls : Int)], .pointer (some ⟨sb, 0, none⟩), .agg #[.string lo, .string hi, .bool op], .tuple #[.int .i64 (belE lo Ls : Int), .int .i64 (endE hi op Ls : Int)], .int .i64 (belE lo Ls : Int), .int .i64 (endE hi op Ls : Int), .pointer (some ⟨sb, 0, none⟩), .pointer (some ⟨sb, 0, none⟩), .pointer (some ⟨sb, 3, none⟩), .pointer (some ⟨tb, 0, none⟩), .int .i64 (belE lo Ls : Int), .int .i64 (endE hi op Ls : Int), .func (.func 124) #[] lbS, .string x.k, .agg #[.string x.v.k, .int .i64 x.v.c, .int .i64 x.v.n, .string x.v.v, .bool x.v.d], undef, undef, undef, undef, undef, undef, undef, undef, undef, undef], []⟩)
  (fun x a' _ A Y row hs hg hr => hs) ?assign ?body ?done ?stop
 case assign =>
  intro l' pre x X K hi hK
  dsimp only [encs2]
  gi_wp2
  exact hK _ _ (KeepsFrom.refl _ _) (KpT.refl X) hi rfl
 case body =>
  rintro l' pre x a' X ⟨hls, hk0, hbx⟩ rfl hlen
  obtain ⟨v, hv, ho⟩ := hls.ex
  obtain ⟨i0, hi0, hz0, hz1, hz2⟩ := info_parts infoStrS
  have v0 := cell_one hv
  have HV := aside hv
  have HO := aside ho
  have HB := aside hbx
  have HK0 := aside hk0
  have HLN := aside (show (pre.map (fun r => r.k)).length ≤ 1000000 from by have := HSP.out; rw [List.length_map]; omega)
  have HI := aside hi0
  obtain ⟨ks, hks⟩ : ∃ ks, pre.map (fun r => r.k) = ks := ⟨_, rfl⟩
  have HKN := aside (show (pre ++ [x]).map (fun r => r.k) = ks ++ [x.k] from by rw [List.map_append, hks]; rfl)
  rw [hks] at HO HLN
  clear hls hv ho hbx hlen hi0 hk0 hks
  gi_wp2_with (gi_at_builtin; go_loud (refine wpListIn_append_own _ rfl _ _ _ rfl w.heap.size 9 i0 (.string ⟨#[]⟩) 1 16 Tryz.underlying143 HI.out hz0 hz1 hz2 rfl (by decide) v ks.length (strCells ks) (by rfl) (HO.out.alloc _) ⟨X.heap.size, 0, none⟩ 1 1 [.string x.k] (by rfl) (by rfl) (World.news_of_block (cs := #[.string x.k]) (t := 9) (fr := (0, 0)) (heap_alloc_new X _)) (by intro u hu; rw [List.mem_singleton] at hu; subst hu; rfl) (by have := HLN.out; unfold maxLen; omega) (by have := HLN.out; omega) (by have := HB.out.size; simp; omega) ?_); intro v' X2 hown1 hgrow hiff; refine Hid.out ?_)
  refine aside ?_
  obtain ⟨g', cap', rfl⟩ : ∃ g' cap', v' = .slice (some ⟨g', 0, none⟩) (ks.length + 1) cap' := by
   rcases hown1.2 with ⟨_, h⟩ | ⟨g', cap', cur, e, _⟩
   ·omega
   ·exact ⟨g', cap', e⟩
  have ST := aside (lst_stepS (x := x.k) (C := w3.heap.size) HB.out HVB.out HV.out HO.out hown1 hgrow)
  have KB := aside (show (X2.setCell ⟨vb, 0, none⟩ (.slice (some ⟨g', 0, none⟩) (ks.length + 1) cap')).heap[rb]? = some (.cells #[.string lo, .string hi, .bool op] 40 (0, 0)) from by
   rw [Below.heap_setCell _ _ _ _ (fun e => by subst e; rw [HK0.out] at HV; simp at HV; exact absurd HV.out (by simp))]
   rw [hgrow.block rb (by have := lt_of_blk HK0.out; simp; omega) (fun e => by obtain ⟨-, cs, h3⟩ := row_blkS HO.out e.symm; rw [HK0.out] at h3; simp at h3)]
   exact blk_on HK0.out (bnew _ _))
  have v1 := cell_one ST.out.1
  have z1 := frozen_one ST.out.1
  clear hown1 hgrow hiff v0
  gi_wp2
  exact ⟨ST.out.2.2.2.1, ST.out.2.2.2.2, by rw [HKN.out]; exact ST.out.2.1, KB.out, ST.out.2.2.1⟩
 case done =>
  rintro D xs X hD rfl ⟨hls, hk0, hbx⟩ hK
  rw [← HKS.out] at hls
  obtain ⟨v, hv, ho⟩ := hls.ex
  obtain ⟨a, c, rfl, -⟩ := own_slice ho
  have v0 := cell_one hv
  obtain ⟨r0, r1, r2, -⟩ := tri hk0
  have HLK := aside (show (keysR T lo hi op Ls).length ≤ 1000000 from by have := HSP.out; rw [HKS.out, List.length_map]; exact this)
  have HST := aside (strs_row ho rfl HLK.out)
  have HBX := aside hbx
  have HKD := aside hK
  obtain ⟨m, hm⟩ : ∃ m, (keysR T lo hi op Ls).length = m := ⟨_, rfl⟩
  have HM := aside hm
  rw [hm] at v0 HST
  clear hls hv ho hbx hK hm hk0
  gi_wp2_with fail
  refine ⟨trivial, ?_⟩
  refine (callsIn_wide.2 (HC.out _ a m c HBX.out HST.out HM.out)).mono ?_
  rintro e Y ⟨v, c, rfl, hr, b5⟩
  have HR := aside hr
  have B5 := aside b5
  have HKY := aside (blk_on HKD.out b5)
  clear hr b5 v0 r0 r1 r2
  gi_wp2
  refine ⟨by simp, .inl ⟨_, _, rfl, run_takeDeferred HKY.out, ?_⟩⟩
  refine ⟨.tuple #[v, .int .i64 c], by simp [results, Tryz.f94, go_sem], X, v, c, rfl, hown _ _ _ _ _ HR.out B5.out.size HKY.out, HBX.out.size, ?_⟩
  exact ownFrom_below (β := Unit) (Nat.le_refl w.heap.size) HVV.out () Y _ (some D) (bthen HBX.out B5.out) (grownBy_putObj' Y D (.deferred none)) (fun r e => by cases e; exact ⟨hD, _, HKY.out, rfl⟩)
 case stop =>
  rintro D c pre X hD _ h
  exact h.elim
end Go.Proofs.YtpbkjffiohfkcaaGreatDoor
namespace Go.Proofs.YtpbkjffiohfkcaaGreatDoor
open Go.RowKit
set_option linter.unusedVariables false
def plc (k : ByteArray) : List En → Nat
 | [] => 0
 | y :: l => if kLt y.k k = true then plc k l + 1 else 0
def isP (k : ByteArray) : List En → Bool
 | [] => false
 | y :: l => if kLt y.k k = true then isP k l else y.k.toList == k.toList
theorem plc_le (k : ByteArray) : ∀ l : List En, plc k l ≤ l.length
 | [] => Nat.le_refl _
 | y :: l => by
  have := plc_le k l
  unfold plc
  split <;> simp <;> omega
theorem isP_lt {k : ByteArray} : ∀ {l : List En}, isP k l = true → plc k l < l.length
 | [], h => by simp [isP] at h
 | y :: l, h => by
  unfold isP at h
  unfold plc
  by_cases g : kLt y.k k = true
  ·rw [if_pos g] at h ⊢
   have := isP_lt h
   simp; omega
  ·rw [if_neg g]; simp
theorem nthE_succ (y : En) (l : List En) (i : Nat) : nthE (y :: l) (i + 1) = nthE l i := by simp [nthE]
theorem plc_of {k : ByteArray} : ∀ {l : List En} {j : Nat}, j ≤ l.length → (∀ i, i < j → kLt (nthE l i).k k = true) → (j = l.length ∨ kLt (nthE l j).k k = false) → plc k l = j ∧ isP k l = (decide (j < l.length) && ((nthE l j).k.toList == k.toList))
 | [], j, hj, _, _ => by
  obtain rfl : j = 0 := by simpa using hj
  simp [plc, isP]
 | y :: l, 0, _, _, hs => by
  have h0 : kLt y.k k = false := by
   rcases hs with h | h
   ·simp at h
   ·simpa [nthE] using h
  unfold plc isP
  rw [if_neg (by simp [h0]), if_neg (by simp [h0])]
  simp [nthE]
 | y :: l, j + 1, hj, hb, hs => by
  have h0 : kLt y.k k = true := by simpa [nthE] using hb 0 (by omega)
  obtain ⟨h1, h2⟩ := plc_of (k := k) (l := l) (j := j) (by simpa using hj) (fun i hi => by rw [← nthE_succ y l i]; exact hb (i + 1) (by omega)) (by
   rcases hs with h | h
   ·exact .inl (by simpa using h)
   ·exact .inr (by rw [← nthE_succ y l j]; exact h))
  unfold plc isP
  rw [if_pos h0, if_pos h0, h1, h2, nthE_succ]
  simp
theorem insE_plc (e : En) : ∀ l : List En, insE e l = l.take (plc e.k l) ++ [e] ++ l.drop (if isP e.k l = true then plc e.k l + 1 else plc e.k l)
 | [] => by simp [insE, plc, isP]
 | y :: l => by
  unfold insE plc isP
  by_cases g : kLt y.k e.k = true
  ·rw [if_neg (by rw [kLt_asymm g]; simp), if_pos g, if_pos g, if_pos g, insE_plc e l]
   by_cases h : isP e.k l = true
   ·rw [if_pos h, if_pos h]; simp
   ·rw [if_neg h, if_neg h]; simp
  ·rw [if_neg g, if_neg g, if_neg g]
   by_cases h : kLt e.k y.k = true
   ·rw [if_pos h, if_neg (by
      intro c
      have : y.k = e.k := toList_inj (by simpa using c)
      rw [this, kLt_irrefl] at h; cases h)]
    simp
   ·rw [if_neg h, if_pos (by
      have : y.k = e.k := kLt_total (by simpa using g) (by simpa using h)
      rw [this]; simp)]
    simp
theorem look_plc {k : ByteArray} : ∀ {l : List En}, RisesE l → lookE k l = if isP k l = true then some (nthE l (plc k l)) else none
 | [], _ => by simp [lookE, isP]
 | y :: l, hr => by
  have h1 := rises_consE.1 hr
  unfold lookE isP plc
  by_cases g : kLt y.k k = true
  ·rw [if_pos g, if_pos g]
   rw [List.find?_cons_of_neg (by simp [g])]
   have := look_plc (k := k) h1.2
   unfold lookE at this
   rw [this, nthE_succ]
  ·rw [if_neg g, if_neg g]
   by_cases h : kLt k y.k = true
   ·rw [List.find?_cons_of_neg (by simp [h]), if_neg (by
      intro c
      have : y.k = k := toList_inj (by simpa using c)
      rw [this, kLt_irrefl] at h; cases h)]
    rw [List.find?_eq_none]
    intro z hz
    have : kLt k z.k = true := kLt_trans h (h1.1 z hz)
    simp [this]
   ·rw [List.find?_cons_of_pos (by simp [g, h]), if_pos (by
      have : y.k = k := kLt_total (by simpa using g) (by simpa using h)
      rw [this]; simp)]
    simp [nthE]
theorem room_plc {k : ByteArray} {l : List En} (h : RisesE l) : roomB k l = (isP k l || decide (l.length < 256)) := by
 unfold roomB
 rw [look_plc h]
 cases isP k l <;> simp
theorem take_map {e : En} {l : List En} (h : MapL l) (he : e.chk = 0) : MapL (insE e l) := ⟨rises_of_map (by rw [← ins_map]; exact rises_ins _ (rises_map h.rises)), fun x hx => by
 rw [insE_plc] at hx
 simp only [List.append_assoc, List.singleton_append, List.mem_append, List.mem_cons] at hx
 rcases hx with hx | rfl | hx
 ·exact h.chk x (List.mem_of_mem_take hx)
 ·exact he
 ·exact h.chk x (List.mem_of_mem_drop hx)⟩
theorem take_len {e : En} {l : List En} (h : RisesE l) (hl : l.length ≤ 256) (hr : roomB e.k l = true) : (insE e l).length ≤ 256 := by
 rw [room_plc h] at hr
 rw [insE_plc]
 have h1 := plc_le e.k l
 cases hi : isP e.k l
 ·rw [hi] at hr
  simp at hr ⊢
  omega
 ·have h2 := isP_lt hi
  simp
  omega
end Go.Proofs.YtpbkjffiohfkcaaGreatDoor

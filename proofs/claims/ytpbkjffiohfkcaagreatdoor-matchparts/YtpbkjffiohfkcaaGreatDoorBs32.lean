/-
  cut, the code's: the pieces of a range at borders, in a slice of its own.
-/
import Derived.Test.YtpbkjffiohfkcaaGreatDoorBs31
import Derived.Stop.RegionWithIn
import Derived.Deep.RegionHeld3
import Derived.Test.YtpbkjffiohfkcaaGreatDoorBs1
import Derived.ProofKit
import Derived.OpenShut
import Derived.ShutString
import Derived.SizedLaws
import Derived.HandedShaped
import Derived.Lib.SmallJoins
import Derived.Deep.Slices
import Derived.Deep.CondSized
import Derived.ChangeOld
import Derived.Laws.AppendOwnNone
namespace Go.Proofs.YtpbkjffiohfkcaaGreatDoor
open Go.RowKit
set_option linter.unusedVariables false
def StrsIn (n₀ : Nat) (w : World) (a : Option Addr) (len cap : Nat) (S : Nat → ByteArray) : Prop :=
 len ≤ cap ∧ len * 16 ≤ 281474976710656 ∧ (len = 0 ∨ ∃ blk off, a = some ⟨blk, off, none⟩ ∧ blk < n₀ ∧ ∀ i, i < len → w.cell? ⟨blk, off + i, none⟩ = some (.string (S i)))
theorem StrsIn.up {n₀ n₁ : Nat} {A B : World} (h : Below n₀ A B) (hn : n₀ ≤ n₁) {a : Option Addr} {len cap : Nat} {S : Nat → ByteArray} (hr : StrsIn n₀ A a len cap S) : StrsIn n₁ B a len cap S := by
 obtain ⟨h1, h2, h3⟩ := hr
 refine ⟨h1, h2, ?_⟩
 rcases h3 with h3 | ⟨blk, off, e, hb, hc⟩
 ·exact .inl h3
 ·exact .inr ⟨blk, off, e, Nat.lt_of_lt_of_le hb hn, fun i hi => (h.cell (p := ⟨blk, off + i, none⟩) hb).trans (hc i hi)⟩
def rgCells (f : Nat → Rg) : Nat → List Value
 | 0 => []
 | n + 1 => rgCells f n ++ [.string (f n).lo, .string (f n).hi, .bool (f n).op]
theorem rgCells_length (f : Nat → Rg) (n : Nat) : (rgCells f n).length = n * 3 := by
 induction n with
 | zero => rfl
 | succ n ih => simp only [rgCells, List.length_append, ih, List.length_cons, List.length_nil]; omega
theorem rgCells_congr {f g : Nat → Rg} : ∀ {n : Nat}, (∀ i, i < n → f i = g i) → rgCells f n = rgCells g n
 | 0, _ => rfl
 | n + 1, h => by simp only [rgCells]; rw [rgCells_congr (n := n) (fun i hi => h i (by omega)), h n (by omega)]
theorem rgCells_at (f : Nat → Rg) : ∀ (n i : Nat), i < n → (rgCells f n)[i * 3]? = some (.string (f i).lo) ∧ (rgCells f n)[i * 3 + 1]? = some (.string (f i).hi) ∧ (rgCells f n)[i * 3 + 2]? = some (.bool (f i).op)
 | n + 1, i, h => by
  have hl := rgCells_length f n
  simp only [rgCells]
  by_cases e : i = n
  ·subst e
   refine ⟨?_, ?_, ?_⟩
   ·rw [List.getElem?_append_right (by omega), hl, Nat.sub_self]; rfl
   ·rw [List.getElem?_append_right (by omega), hl, show i * 3 + 1 - i * 3 = 1 from by omega]; rfl
   ·rw [List.getElem?_append_right (by omega), hl, show i * 3 + 2 - i * 3 = 2 from by omega]; rfl
  ·obtain ⟨h0, h1, h2⟩ := rgCells_at f n i (by omega)
   refine ⟨?_, ?_, ?_⟩
   ·rw [List.getElem?_append_left (by omega)]; exact h0
   ·rw [List.getElem?_append_left (by omega)]; exact h1
   ·rw [List.getElem?_append_left (by omega)]; exact h2
def cutLo (lo : ByteArray) (S : Nat → ByteArray) : Nat → ByteArray
 | 0 => lo
 | j + 1 => S j
def piece (r : Rg) (S : Nat → ByteArray) (len j : Nat) : Rg := if j < len then ⟨cutLo r.lo S j, S j, false⟩ else ⟨cutLo r.lo S j, r.hi, r.op⟩
theorem info23 : (Tryz.prog.info? 40).map (fun i => (i.zero, i.size, i.bytes)) = some (some (.agg #[.string ⟨#[]⟩, .string ⟨#[]⟩, .bool false]), 3, 40) := by kernel_rfl
theorem set_box0 {W : World} {k : Nat} {a b c : Value} {t : TypeId} (h : W.heap[k]? = some (.cells #[a, b, c] t (0, 0))) (v : Value) : (W.setCell ⟨k, 0, none⟩ v).heap[k]? = some (.cells #[v, b, c] t (0, 0)) := by
 simp only [World.setCell]
 rw [Array.getElem?_modify]
 simp [h]
theorem rgs_of_row {w : World} {B n₀ g n cap : Nat} {f : Nat → Rg} (h : w.ownsRow B 40 3 (.slice (some ⟨g, 0, none⟩) n cap) n (rgCells f n)) (hg : g < n₀) (hb : n * 40 ≤ 281474976710656) : RgsIn n₀ w (some ⟨g, 0, none⟩) n cap f := by
 have hcap : n ≤ cap := by
  rcases h.2 with ⟨h1, -⟩ | ⟨g', cap', cur, h1, -, -, h2, -⟩
  ·cases h1
  ·cases h1; exact h2
 refine ⟨hcap, hb, .inr ⟨g, 0, rfl, hg, fun i hi => ?_⟩⟩
 obtain ⟨h0, h1, h2⟩ := rgCells_at f n i hi
 have c := fun j u hu => h.cells (g := g) rfl j u hu
 have e : ∀ j, (⟨g, 0, none⟩ : Addr).add j = ⟨g, 0 + j, none⟩ := fun j => by unfold Addr.add; split <;> simp_all
 have c0 := c _ _ h0; have c1 := c _ _ h1; have c2 := c _ _ h2
 rw [e] at c0 c1 c2
 exact ⟨c0, by rw [Nat.add_assoc]; exact c1, by rw [Nat.add_assoc]; exact c2⟩
theorem rel_cut {w wr w1 : World} {o : Obj} {u v : Value} {lo hi : ByteArray} {op : Bool} {S : Nat → ByteArray} {k : Nat} (hnx : Below w.heap.size w wr)
    (hbox : wr.heap[w.heap.size]? = some (.cells #[.string (cutLo lo S k), .string hi, .bool op] 40 (0, 0)))
    (hown : wr.ownsRow (w.heap.size + 1) 40 3 u k (rgCells (fun j => ⟨cutLo lo S j, S j, false⟩) k)) (hgrow : (wr.alloc o).grownBy w1 u.ownBlock)
    (hown1 : w1.ownsRow (w.heap.size + 1) 40 3 v (k + 1) (rgCells (fun j => ⟨cutLo lo S j, S j, false⟩) k ++ [.string (cutLo lo S k), .string (S k), .bool false])) :
    w1.heap[w.heap.size]? = some (.cells #[.string (cutLo lo S k), .string hi, .bool op] 40 (0, 0)) ∧ w1.ownsRow (w.heap.size + 1) 40 3 v (k + 1) (rgCells (fun j => ⟨cutLo lo S j, S j, false⟩) (k + 1)) ∧ Below w.heap.size w w1 := by
 have hlt := (Array.getElem?_eq_some_iff.1 hbox).1
 refine ⟨?_, hown1, (hnx.alloc hnx.size o).grown hgrow (by simp; omega) (fun j hj => by have := (hown.lt j hj).1; omega)⟩
 rw [hgrow.block w.heap.size (by simp; omega) (fun e => by have := (hown.lt w.heap.size e.symm).1; omega)]
 exact keepA hbox
set_option maxHeartbeats 3200000 in
set_option maxRecDepth 100000 in
theorem cut_any (lo hi : ByteArray) (op : Bool) (a : Option Addr) (len cap : Nat) (S : Nat → ByteArray) (w : World) (h : StrsIn w.heap.size w a len cap S) (hroom : (len + 1) * 40 ≤ 140737488355328) :
    Calls Tryz.prog 149 #[.agg #[.string lo, .string hi, .bool op], .slice a len cap] w fun e w' => ∃ g cp, e = .returned (.slice (some ⟨g, 0, none⟩) (len + 1) cp) ∧ w'.ownsRow (w.heap.size + 1) 40 3 (.slice (some ⟨g, 0, none⟩) (len + 1) cp) (len + 1) (rgCells (piece ⟨lo, hi, op⟩ S len) (len + 1)) ∧ g < w'.heap.size ∧ Below w.heap.size w w' := by
 obtain ⟨i0, hi0, hz0, hz1, hz2⟩ := info_parts info23
 obtain ⟨hlc, hl16, hh⟩ := h
 go_enter Tryz.func149, Tryz.ntmps149
 go_wp2_with (at_make; refine wpList_make_own _ rfl _ _ 67 rfl (w.heap.size + 1) 40 i0 (.agg #[.string ⟨#[]⟩, .string ⟨#[]⟩, .bool false]) 3 Tryz.underlying67 hi0 hz0 hz1 _ _ _ (len + 1) rfl rfl ?b1 ?b2 ?b3 (by simp) ?_)
 case b1 => omega
 case b2 => rw [hz2]; omega
 case b3 => unfold maxLen; omega
 intro w0 hown0 hgrow0
 have hk0 : w0.heap[w.heap.size]? = some (.cells #[.string lo, .string hi, .bool op] 40 (0, 0)) := (hgrow0.block w.heap.size (by simp) (fun e => by cases e)).trans (heap_new w _)
 have hb0 : Below w.heap.size w w0 := (bnew w _).grown hgrow0 (by simp) (fun k e => by cases e)
 clear hgrow0
 go_wp2
 go_loopw [5, 14] (fun v i wr => ∃ k : Nat, k ≤ len ∧ i = .int .i64 (k : Int) ∧ wr.heap[w.heap.size]? = some (.cells #[.string (cutLo lo S k), .string hi, .bool op] 40 (0, 0)) ∧ wr.ownsRow (w.heap.size + 1) 40 3 v k (rgCells (fun j => ⟨cutLo lo S j, S j, false⟩) k) ∧ Below w.heap.size w wr)
  (fun _ i _ => len - (intOf i).toNat)
 case atStart => exact ⟨0, Nat.zero_le _, rfl, hk0, hown0, hb0⟩
 case round =>
  obtain ⟨k, hk, rfl, hbox, hown, hnx⟩ := hrel
  obtain ⟨⟨q0, q1, q2⟩, f0, f1, f2⟩ := box_out hbox
  have HB := aside hbox
  have hsz := hnx.size
  have hbl := lies hbox
  clear hbox hk0 hown0 hb0
  by_cases hlt : (k : Int) < (len : Int)
  ·rcases hh with hh | ⟨b, off, rfl, hb, hc⟩
   ·omega
   ·have c0 := (hnx.cell (p := ⟨b, off + k, none⟩) hb).trans (hc k (by omega))
    have hk0 : (0 : Int) ≤ (k : Int) := by omega
    clear hc
    go_wp2_with (at_builtin; refine wpList_append_lies _ rfl _ _ _ rfl (w.heap.size + 1) 40 i0 (.agg #[.string ⟨#[]⟩, .string ⟨#[]⟩, .bool false]) 3 40 Tryz.underlying67 hi0 hz0 hz1 hz2 rfl (by decide) _ _ _ (by rfl) (hown.alloc _) ⟨wr.heap.size, 0, none⟩ 1 1 [.string (cutLo lo S k), .string (S k), .bool false] (by rfl) (by rfl) (World.news_of_block (cs := #[.string (cutLo lo S k), .string (S k), .bool false]) (t := 40) (fr := (0, 0)) (heap_alloc_new wr _)) (by simp [Value.oneCell']) (by omega) (by unfold maxLen; omega) (by omega) (by have := hnx.size; simp; omega) (wr.heap.size + 1) (by simp) ?_; intro g cp w1 hown1 hgrow hat hlt1; refine Hid.out ?_)
    refine aside ?_
    have Q := rel_cut hnx HB.out hown hgrow hown1
    obtain ⟨kB, kO, kN⟩ := Q
    obtain ⟨⟨q0', q1', q2'⟩, f0', f1', f2'⟩ := box_out kB
    have KB := aside kB; have KO := aside kO
    clear hown hown1 hgrow hnx hat q0 q1 q2 f0 f1 f2 c0 kB kO
    go_wp2
    go_roundw
    case rel => exact ⟨k + 1, by omega, by go_num, set_box0 KB.out _, ownsRow_setCell_below KO.out (by simp) _, kN.setCell (p := ⟨w.heap.size, 0, none⟩) (Nat.le_refl _) _⟩
    case measure => simp [intOf]; omega
  ·obtain rfl : len = k := by omega
   go_wp2_with (at_builtin; refine wpList_append_lies _ rfl _ _ _ rfl (w.heap.size + 1) 40 i0 (.agg #[.string ⟨#[]⟩, .string ⟨#[]⟩, .bool false]) 3 40 Tryz.underlying67 hi0 hz0 hz1 hz2 rfl (by decide) _ _ _ (by rfl) (hown.alloc _) ⟨wr.heap.size, 0, none⟩ 1 1 [.string (cutLo lo S len), .string hi, .bool op] (by rfl) (by rfl) (World.news_of_block (cs := #[.string (cutLo lo S len), .string hi, .bool op]) (t := 40) (fr := (0, 0)) (heap_alloc_new wr _)) (by simp [Value.oneCell']) (by omega) (by unfold maxLen; omega) (by omega) (by have := hnx.size; simp; omega) (wr.heap.size + 1) (by simp) ?_; intro g cp w1 hown1 hgrow hat hlt1; refine Hid.out ?_)
   refine aside ?_
   go_wp2
   go_ret
   refine ⟨g, cp, rfl, ?_, hlt1, (hnx.alloc hnx.size _).grown hgrow (by simp; omega) (fun j hj => by have := (hown.lt j hj).1; omega)⟩
   rw [show rgCells (piece ⟨lo, hi, op⟩ S len) (len + 1) = rgCells (fun j => ⟨cutLo lo S j, S j, false⟩) len ++ [.string (cutLo lo S len), .string hi, .bool op] from by
    simp only [rgCells]
    rw [rgCells_congr (f := piece ⟨lo, hi, op⟩ S len) (g := fun j => ⟨cutLo lo S j, S j, false⟩) (fun i hi => by simp [piece, hi])]
    simp [piece]]
   exact hown1
theorem cell_on {W W' : World} {p : Addr} {v : Value} (h : W.cell? p = some v) (b : Below W.heap.size W W') : W'.cell? p = some v :=
 (b.cell (World.block_lt_of_cell? W _ h)).trans h
theorem row_below {w w' : World} {base N : Nat} {e : TypeId} {size g n cap : Nat} {xs : List Value} (h : w.ownsRow base e size (.slice (some ⟨g, 0, none⟩) n cap) n xs) (hb : Below N w w') (hg : g < N) : w'.ownsRow base e size (.slice (some ⟨g, 0, none⟩) n cap) n xs := by
 refine ⟨h.1, ?_⟩
 rcases h.2 with ⟨h1, -⟩ | ⟨g', cap', cur, h1, h2, h3, h4⟩
 ·cases h1
 ·cases h1
  exact .inr ⟨g, cap, cur, rfl, h2, (hb.block g hg).trans h3, h4⟩
theorem row_base {w : World} {base base' : Nat} {e : TypeId} {size g n cap : Nat} {xs : List Value} (h : w.ownsRow base e size (.slice (some ⟨g, 0, none⟩) n cap) n xs) (hb : base' ≤ base) : w.ownsRow base' e size (.slice (some ⟨g, 0, none⟩) n cap) n xs := by
 refine ⟨h.1, ?_⟩
 rcases h.2 with ⟨h1, -⟩ | ⟨g', cap', cur, h1, h2, h3, h4⟩
 ·cases h1
 ·exact .inr ⟨g', cap', cur, h1, Nat.le_trans hb h2, h3, h4⟩
theorem cut_at {lo hi : ByteArray} {op : Bool} {a : Option Addr} {len cap : Nat} {S : Nat → ByteArray} (hroom : (len + 1) * 40 ≤ 140737488355328) (w : World) (h : StrsIn w.heap.size w a len cap S) :
    Calls Tryz.prog 149 #[.agg #[.string lo, .string hi, .bool op], .slice a len cap] w fun e w' => ∃ g cp, e = .returned (.slice (some ⟨g, 0, none⟩) (len + 1) cp) ∧ w'.ownsRow (w.heap.size + 1) 40 3 (.slice (some ⟨g, 0, none⟩) (len + 1) cp) (len + 1) (rgCells (piece ⟨lo, hi, op⟩ S len) (len + 1)) ∧ g < w'.heap.size ∧ Below w.heap.size w w' :=
 cut_any lo hi op a len cap S w h hroom
theorem rising_at {a : Option Addr} {len cap : Nat} {T : Nat → Rg} {q : Bool} (hq : rises T len = q) (w : World) (h : RgsIn w.heap.size w a len cap T) :
    Calls Tryz.prog 51 #[.slice a len cap] w fun e w' => e = .returned (.bool q) ∧ Below w.heap.size w w' := by
 subst hq; exact rising_any a len cap T w h
set_option maxHeartbeats 1600000 in
theorem split_yes (lo hi : ByteArray) (op : Bool) (a : Option Addr) (len cap : Nat) (S : Nat → ByteArray) (w : World) (hm : Rg.may ⟨lo, hi, op⟩ = true) (h : StrsIn w.heap.size w a len cap S) (hroom : (len + 1) * 40 ≤ 140737488355328) (hlen : 0 < len)
    (hq : rises (piece ⟨lo, hi, op⟩ S len) (len + 1) = true) :
    Calls Tryz.prog 139 #[.agg #[.string lo, .string hi, .bool op], .slice a len cap] w fun e w' =>
     ∃ g cp, e = .returned (.tuple #[.slice (some ⟨g, 0, none⟩) (len + 1) cp, .int .i64 0]) ∧ w'.ownsRow w.heap.size 40 3 (.slice (some ⟨g, 0, none⟩) (len + 1) cp) (len + 1) (rgCells (piece ⟨lo, hi, op⟩ S len) (len + 1)) ∧ g < w'.heap.size ∧ Below w.heap.size w w' := by
 have C := aside (fun w => check_at (may_chk hm) w)
 have H := aside h
 have hl0 : (0 : Int) < (len : Int) := by omega
 clear hm h
 go_enter Tryz.func139, Tryz.ntmps139
 go_wp2_with fail
 refine (C.out _).mono ?_
 rintro e w1 ⟨rfl, b1⟩
 obtain ⟨q0, q1, q2⟩ := box3 b1
 have b01 := bthen (bnew w (.cells #[.string lo, .string hi, .bool op] 40)) b1
 clear b1
 go_wp2_with fail
 refine (cut_at hroom _ (H.out.up b01 b01.size)).mono ?_
 rintro e w2 ⟨g, cp, rfl, hown, hg, b2⟩
 have OW := aside hown
 have HQ := aside hq
 have b02 := bthen b01 b2
 have RR := aside (rgs_of_row hown hg (by omega))
 clear hown q0 q1 q2 hq
 go_wp2_with fail
 refine (rising_at HQ.out _ RR.out).mono ?_
 rintro e w3 ⟨rfl, b3⟩
 have b03 := bthen b02 b3
 have OW3 := aside (row_base (row_below OW.out b3 hg) (Nat.le_trans b01.size (Nat.le_succ _)))
 have hg3 := Nat.lt_of_lt_of_le hg b3.size
 clear OW b3 RR
 go_wp2
 go_ret2
 exact ⟨g, cp, rfl, OW3.out, hg3, b03⟩
set_option maxHeartbeats 1600000 in
theorem split_none (lo hi : ByteArray) (op : Bool) (a : Option Addr) (cap : Nat) (w : World) (hm : Rg.may ⟨lo, hi, op⟩ = true) :
    Calls Tryz.prog 139 #[.agg #[.string lo, .string hi, .bool op], .slice a 0 cap] w fun e w' =>
     ∃ g cp, e = .returned (.tuple #[.slice (some ⟨g, 0, none⟩) 1 cp, .int .i64 0]) ∧ w'.ownsRow w.heap.size 40 3 (.slice (some ⟨g, 0, none⟩) 1 cp) 1 (rgCells (fun _ => ⟨lo, hi, op⟩) 1) ∧ g < w'.heap.size ∧ Below w.heap.size w w' := by
 have C := aside (fun w => check_at (may_chk hm) w)
 have H : Hid (∀ w : World, StrsIn w.heap.size w a 0 cap (fun _ => ByteArray.empty)) := aside (fun w => ⟨Nat.zero_le _, by omega, .inl rfl⟩)
 clear hm
 go_enter Tryz.func139, Tryz.ntmps139
 go_wp2_with fail
 refine (C.out _).mono ?_
 rintro e w1 ⟨rfl, b1⟩
 obtain ⟨q0, q1, q2⟩ := box3 b1
 have b01 := bthen (bnew w (.cells #[.string lo, .string hi, .bool op] 40)) b1
 clear b1
 go_wp2_with fail
 refine (cut_at (by omega) _ (H.out _)).mono ?_
 rintro e w2 ⟨g, cp, rfl, hown, hg, b2⟩
 have OW := aside (row_base hown (Nat.le_trans b01.size (Nat.le_succ _)))
 have b02 := bthen b01 b2
 clear hown q0 q1 q2
 go_wp2
 go_ret2
 exact ⟨g, cp, rfl, OW.out, hg, b02⟩
end Go.Proofs.YtpbkjffiohfkcaaGreatDoor
namespace Go.Proofs.YtpbkjffiohfkcaaGreatDoor
open Go.RowKit Go.Shelf
attribute [local go_sem] Oper.semAt_some
end Go.Proofs.YtpbkjffiohfkcaaGreatDoor
namespace Go.Proofs.YtpbkjffiohfkcaaGreatDoor
open Go.RowKit
set_option linter.unusedVariables false
def In (S : List (List UInt8)) (r : Rg) : Prop := r.lo.toList ∈ S ∧ r.hi.toList ∈ S ∧ [] ∈ S
theorem may_rk {S : List (List UInt8)} {r : Rg} (h : In S r) : r.may = true ↔ ((r.lo.size : Int) ≤ 16 ∧ (r.hi.size : Int) ≤ 16) ∧ ((r.op = true ∧ rk S r.hi.toList = rk S []) ∨ (r.op = false ∧ rk S r.lo.toList ≤ rk S r.hi.toList)) := by
 obtain ⟨h1, h2, h3⟩ := h
 have e1 := rk_lt h1 h2; have e2 := rk_eq h1 h2
 have e3 : r.hi.toList.isEmpty = decide (rk S r.hi.toList = rk S []) := by rw [← rk_eq h2 h3]; cases r.hi.toList <;> rfl
 unfold Rg.may Rg.chk
 rw [e1, e2, e3]
 by_cases hs : 16 < (r.lo.size : Int) ∨ 16 < (r.hi.size : Int)
 ·rw [if_pos hs]
  constructor
  ·intro h; cases h
  ·rintro ⟨⟨g1, g2⟩, -⟩; omega
 ·rw [if_neg hs]
  cases r.op
  ·by_cases h4 : rk S r.lo.toList < rk S r.hi.toList
   ·simp [h4]; omega
   ·by_cases h5 : rk S r.lo.toList = rk S r.hi.toList
    ·simp [h5]; omega
    ·simp [h4, h5]; omega
  ·by_cases h4 : rk S r.hi.toList = rk S []
   ·simp [h4]; omega
   ·simp [h4]
theorem emp_rk {S : List (List UInt8)} {r : Rg} (h : In S r) : r.emp = false ↔ r.may = true ∧ (r.op = true ∨ rk S r.lo.toList ≠ rk S r.hi.toList) := by
 obtain ⟨h1, h2, h3⟩ := h
 unfold Rg.emp
 rw [rk_eq h1 h2]
 cases r.may <;> cases r.op <;> simp
theorem has_rk {S : List (List UInt8)} {r : Rg} {k : ByteArray} (h : In S r) (hk : k.toList ∈ S) : r.has k = true ↔ r.may = true ∧ (k.size : Int) ≤ 16 ∧ rk S r.lo.toList ≤ rk S k.toList ∧ (r.op = true ∨ rk S k.toList < rk S r.hi.toList) := by
 obtain ⟨h1, h2, h3⟩ := h
 unfold Rg.has
 rw [rk_lt hk h1, rk_lt hk h2]
 cases r.may <;> cases r.op <;> simp [Nat.not_lt, and_assoc]
def S2 (a b : Rg) : List (List UInt8) := [a.lo.toList, a.hi.toList, b.lo.toList, b.hi.toList, []]
theorem emp_of_not_may {r : Rg} (h : r.may = false) : r.emp = true := by simp [Rg.emp, h]
theorem emp_num {S : List (List UInt8)} {r : Rg} (h : In S r) : r.emp = false ↔ ((r.lo.size : Int) ≤ 16 ∧ (r.hi.size : Int) ≤ 16) ∧ ((r.op = true ∧ rk S r.hi.toList = rk S []) ∨ (r.op = false ∧ rk S r.lo.toList < rk S r.hi.toList)) := by
 rw [emp_rk h, may_rk h]
 cases r.op <;> simp <;> omega
def S3 (a b : Rg) (k : ByteArray) : List (List UInt8) := [a.lo.toList, a.hi.toList, b.lo.toList, b.hi.toList, [], k.toList]
theorem in3a (a b : Rg) (k : ByteArray) : In (S3 a b k) a := ⟨by simp [S3], by simp [S3], by simp [S3]⟩
theorem in3k (a b : Rg) (k : ByteArray) : k.toList ∈ S3 a b k := by simp [S3]
theorem has_not_emp {r : Rg} {k : ByteArray} (h : r.has k = true) : r.emp = false := by
 rw [emp_num (in3a r r k)]
 obtain ⟨h1, h2, h3, h4⟩ := (has_rk (in3a r r k) (in3k r r k)).1 h
 obtain ⟨m1, m2⟩ := (may_rk (in3a r r k)).1 h1
 refine ⟨m1, ?_⟩
 rcases m2 with m2 | ⟨o, m2⟩
 ·exact .inl m2
 ·rcases h4 with h4 | h4
  ·rw [o] at h4; cases h4
  ·exact .inr ⟨o, by omega⟩
def cnt (T : Nat → Rg) (k : ByteArray) : Nat → Nat
 | 0 => 0
 | n + 1 => cnt T k n + ((T n).has k).toNat
theorem steps_mono {L U : Nat → Nat} {n : Nat} (h : ∀ i, i + 1 < n → L i < U i ∧ L (i + 1) = U i) : ∀ j i, i ≤ j → j < n → L i + (j - i) ≤ L j
 | 0, i, hi, _ => by obtain rfl : i = 0 := by omega
                     omega
 | j + 1, i, hi, hj => by
  by_cases e : i = j + 1
  ·subst e; omega
  ·have h1 := steps_mono h j i (by omega) (by omega)
   have h2 := h j hj
   omega
theorem rises_one {T : Nat → Rg} (h : (T 0).emp = false) : rises T 1 = true := by
 unfold rises
 rw [anyE_false (fun j hj => by obtain rfl : j = 0 := by omega
                                exact h)]
 rfl
def okB (r : Rg) (lo b : ByteArray) : Bool := decide ((b.size : Int) ≤ 16) && (Op.bytesLess lo.toList b.toList && (r.op || Op.bytesLess b.toList r.hi.toList))
def Sp (r : Rg) (S : Nat → ByteArray) (n : Nat) : List (List UInt8) := [] :: r.lo.toList :: r.hi.toList :: (List.range n).map (fun i => (S i).toList)
theorem sp_S {r : Rg} {S : Nat → ByteArray} {n i : Nat} (hi : i < n) : (S i).toList ∈ Sp r S n := by
 simp only [Sp, List.mem_cons, List.mem_map, List.mem_range]
 exact .inr (.inr (.inr ⟨i, hi, rfl⟩))
theorem sp_lo {r : Rg} {S : Nat → ByteArray} {n : Nat} : r.lo.toList ∈ Sp r S n := by simp [Sp]
theorem sp_hi {r : Rg} {S : Nat → ByteArray} {n : Nat} : r.hi.toList ∈ Sp r S n := by simp [Sp]
theorem sp_nil {r : Rg} {S : Nat → ByteArray} {n : Nat} : [] ∈ Sp r S n := by simp [Sp]
theorem sp_cut {r : Rg} {S : Nat → ByteArray} {n i : Nat} (hi : i ≤ n) : (cutLo r.lo S i).toList ∈ Sp r S n := by
 cases i with
 | zero => exact sp_lo
 | succ i => exact sp_S (by omega)
theorem sp_piece {r : Rg} {S : Nat → ByteArray} {n i : Nat} (hi : i ≤ n) : In (Sp r S n) (piece r S n i) := by
 unfold piece
 split
 ·exact ⟨sp_cut hi, sp_S ‹_›, sp_nil⟩
 ·exact ⟨sp_cut hi, sp_hi, sp_nil⟩
theorem rises_cut {r : Rg} {S : Nat → ByteArray} {len : Nat} (hm : r.may = true) (hl : 0 < len) : rises (piece r S len) (len + 1) = true ↔ ∀ i, i < len → okB r (cutLo r.lo S i) (S i) = true := by
 have hR : In (Sp r S len) r := ⟨sp_lo, sp_hi, sp_nil⟩
 have hmr := (may_rk hR).1 hm
 have okn : ∀ i, i < len → (okB r (cutLo r.lo S i) (S i) = true ↔ ((S i).size : Int) ≤ 16 ∧ rk (Sp r S len) (cutLo r.lo S i).toList < rk (Sp r S len) (S i).toList ∧ (r.op = true ∨ rk (Sp r S len) (S i).toList < rk (Sp r S len) r.hi.toList)) := by
  intro i hi
  unfold okB
  rw [rk_lt (sp_cut (by omega)) (sp_S (r := r) hi), rk_lt (sp_S hi) (sp_hi (r := r))]
  simp only [Bool.and_eq_true, Bool.or_eq_true, decide_eq_true_eq]
 have pe : ∀ i, i ≤ len → ((piece r S len i).emp = false ↔ _) := fun i hi => emp_num (sp_piece hi)
 constructor
 ·intro h
  simp only [rises, Bool.and_eq_true, Bool.not_eq_true'] at h
  have ne : ∀ i, i ≤ len → (piece r S len i).emp = false := by
   intro i hi
   cases he : (piece r S len i).emp
   ·rfl
   ·rw [anyE_true (j := i) (by omega) he] at h; cases h.1
  have st : ∀ i, i < len → ((S i).size : Int) ≤ 16 ∧ rk (Sp r S len) (cutLo r.lo S i).toList < rk (Sp r S len) (S i).toList := by
   intro i hi
   have := (pe i (by omega)).1 (ne i (by omega))
   simp only [piece, if_pos hi] at this
   rcases this with ⟨⟨_, h2⟩, ⟨h3, _⟩ | ⟨_, h4⟩⟩
   ·cases h3
   ·exact ⟨h2, h4⟩
  have mono : ∀ j i, i ≤ j → j < len + 1 → rk (Sp r S len) (cutLo r.lo S i).toList + (j - i) ≤ rk (Sp r S len) (cutLo r.lo S j).toList :=
   steps_mono (L := fun i => rk (Sp r S len) (cutLo r.lo S i).toList) (U := fun i => rk (Sp r S len) (S i).toList) (fun i hi => ⟨(st i (by omega)).2, rfl⟩)
  intro i hi
  refine (okn i hi).2 ⟨(st i hi).1, (st i hi).2, ?_⟩
  have hlast := (pe len (Nat.le_refl _)).1 (ne len (Nat.le_refl _))
  simp only [piece, if_neg (Nat.lt_irrefl len)] at hlast
  rcases hlast.2 with ⟨h3, _⟩ | ⟨_, h4⟩
  ·exact .inl h3
  ·have := mono len (i + 1) (by omega) (by omega)
   rw [show cutLo r.lo S (i + 1) = S i from rfl] at this
   exact .inr (by omega)
 ·intro h
  have h' := fun i hi => (okn i hi).1 (h i hi)
  have csz : ∀ i, i ≤ len → ((cutLo r.lo S i).size : Int) ≤ 16 := by
   intro i hi
   cases i with
   | zero => exact hmr.1.1
   | succ i => exact (h' i (by omega)).1
  have ne : ∀ i, i ≤ len → (piece r S len i).emp = false := by
   intro i hi
   refine (pe i hi).2 ?_
   by_cases e : i < len
   ·simp only [piece, if_pos e]
    exact ⟨⟨csz i hi, (h' i e).1⟩, .inr ⟨trivial, (h' i e).2.1⟩⟩
   ·obtain rfl : i = len := by omega
    simp only [piece, if_neg (Nat.lt_irrefl i)]
    refine ⟨⟨csz i hi, hmr.1.2⟩, ?_⟩
    rcases hmr.2 with h3 | ⟨h3, _⟩
    ·exact .inl h3
    ·refine .inr ⟨h3, ?_⟩
     obtain ⟨j, rfl⟩ : ∃ j, i = j + 1 := ⟨i - 1, by omega⟩
     rcases (h' j (by omega)).2.2 with h5 | h5
     ·rw [h3] at h5; cases h5
     ·exact h5
  simp only [rises, Bool.and_eq_true, Bool.not_eq_true']
  refine ⟨anyE_false (fun j hj => ne j (by omega)), ?_⟩
  rw [List.all_eq_true]
  intro x hx
  simp only [upto, List.mem_map, List.mem_range, Nat.add_sub_cancel] at hx
  obtain ⟨j, hj, rfl⟩ := hx
  have a1 : (piece r S len j).hi = S j ∧ (piece r S len j).op = false := by simp only [piece, if_pos hj, and_self]
  have a2 : (piece r S len (j + 1)).lo = S j := by unfold piece; split <;> rfl
  simp only [okP, a1, a2, L_irrefl, Bool.or_false, Bool.not_false]
def cdiv (n b : Nat) : Nat := (n + b - 1) / b
def lst (b : Nat) : Nat → Nat → Nat
 | 0, n => n
 | k + 1, n => cdiv (lst b k n) b
def stt (n p j : Nat) : Nat := j * n / p
theorem stt_zero (n p : Nat) : stt n p 0 = 0 := by unfold stt; rw [Nat.zero_mul, Nat.zero_div]
theorem stt_step (n : Nat) {p : Nat} (hp : 0 < p) (j : Nat) : stt n p j + n / p ≤ stt n p (j + 1) ∧ stt n p (j + 1) ≤ stt n p j + n / p + 1 := by
 unfold stt
 rw [Nat.add_mul, Nat.one_mul]
 generalize j * n = a
 constructor
 ·rw [Nat.le_div_iff_mul_le hp, Nat.add_mul]
  have h1 := Nat.div_mul_le_self a p
  have h2 := Nat.div_mul_le_self n p
  omega
 ·rw [← Nat.lt_succ_iff, Nat.div_lt_iff_lt_mul hp]
  have h1 := Nat.lt_div_mul_add (a := a) hp
  have h2 := Nat.lt_div_mul_add (a := n) hp
  have h3 : (a / p + n / p + 1).succ * p = a / p * p + n / p * p + p + p := by
   rw [Nat.succ_mul, Nat.add_mul, Nat.add_mul, Nat.one_mul]
  omega
theorem stt_le {n p j : Nat} (hp : 0 < p) (hj : j ≤ p) : stt n p j ≤ n := by
 unfold stt
 exact Nat.div_le_of_le_mul (Nat.mul_le_mul_right n hj)
theorem stt_lt {n p j : Nat} (hn : 0 < n) (hp : 0 < p) (hj : j < p) : stt n p j < n := by
 unfold stt
 rw [Nat.div_lt_iff_lt_mul hp, Nat.mul_comm n p]
 exact Nat.mul_lt_mul_of_pos_right hj hn
theorem div_pos' {n p : Nat} (hp : 0 < p) (h : p ≤ n) : 1 ≤ n / p := (Nat.le_div_iff_mul_le hp).2 (by omega)
end Go.Proofs.YtpbkjffiohfkcaaGreatDoor
namespace Go.Proofs.YtpbkjffiohfkcaaGreatDoor
open Go.ChangeShapes Go.WideShapes Go.ChangeAt Go.RowKit
set_option linter.unusedVariables false
theorem cellsRg : Tryz.prog.cellsOf 40 = 3 := by kernel_rfl
theorem infoStr : (Tryz.prog.info? 9).map (fun i => (i.zero, i.size, i.bytes)) = some (some (.string ⟨#[]⟩), 1, 16) := by kernel_rfl
theorem infoStr_parts : ∃ i, Tryz.prog.info? 9 = some i ∧ i.zero = some (.string ⟨#[]⟩) ∧ i.size = 1 ∧ i.bytes = 16 := by
 have h := infoStr
 cases hi : Tryz.prog.info? 9 with
 | none => rw [hi] at h; cases h
 | some i =>
  rw [hi] at h
  simp only [Option.map_some, Option.some.injEq, Prod.mk.injEq] at h
  exact ⟨i, rfl, h.1, h.2.1, h.2.2⟩
def strCells (bs : List ByteArray) : List Value := bs.map Value.string
def strUpto (S : Nat → ByteArray) (n : Nat) : List ByteArray := (List.range n).map S
section
variable {H : Type} {enc : TypeId × Value → H} {W : World}
end
end Go.Proofs.YtpbkjffiohfkcaaGreatDoor

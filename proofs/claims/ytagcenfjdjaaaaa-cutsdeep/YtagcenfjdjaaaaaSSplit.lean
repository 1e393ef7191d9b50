/-
  Split, the code's.
-/
import Derived.Test.YtagcenfjdjaaaaaSCut
namespace Go.Proofs.Ytagcenfjdjaaaaa
open Go.RowKit

theorem cell_on {W W' : World} {p : Addr} {v : Value} (h : W.cell? p = some v) (b : Below W.heap.size W W') : W'.cell? p = some v :=
  (b.cell (World.block_lt_of_cell? W _ h)).trans h

theorem row_below {w w' : World} {base N : Nat} {e : TypeId} {size g n cap : Nat} {xs : List Value} (h : w.ownsRow base e size (.slice (some ⟨g, 0, none⟩) n cap) n xs) (hb : Below N w w') (hg : g < N) : w'.ownsRow base e size (.slice (some ⟨g, 0, none⟩) n cap) n xs := by
  refine ⟨h.1, ?_⟩
  rcases h.2 with ⟨h1, -⟩ | ⟨g', cap', cur, h1, h2, h3, h4⟩
  · cases h1
  · cases h1
    exact .inr ⟨g, cap, cur, rfl, h2, (hb.block g hg).trans h3, h4⟩

theorem row_base {w : World} {base base' : Nat} {e : TypeId} {size g n cap : Nat} {xs : List Value} (h : w.ownsRow base e size (.slice (some ⟨g, 0, none⟩) n cap) n xs) (hb : base' ≤ base) : w.ownsRow base' e size (.slice (some ⟨g, 0, none⟩) n cap) n xs := by
  refine ⟨h.1, ?_⟩
  rcases h.2 with ⟨h1, -⟩ | ⟨g', cap', cur, h1, h2, h3, h4⟩
  · cases h1
  · exact .inr ⟨g', cap', cur, h1, Nat.le_trans hb h2, h3, h4⟩

theorem cut_at {lo hi : ByteArray} {op : Bool} {a : Option Addr} {len cap : Nat} {S : Nat → ByteArray} (hroom : (len + 1) * 40 ≤ 140737488355328) (w : World) (h : StrsIn w.heap.size w a len cap S) :
    Calls Try.prog 44 #[.agg #[.string lo, .string hi, .bool op], .slice a len cap] w fun e w' => ∃ g cp, e = .returned (.slice (some ⟨g, 0, none⟩) (len + 1) cp) ∧ w'.ownsRow (w.heap.size + 1) 23 3 (.slice (some ⟨g, 0, none⟩) (len + 1) cp) (len + 1) (rgCells (piece ⟨lo, hi, op⟩ S len) (len + 1)) ∧ g < w'.heap.size ∧ Below w.heap.size w w' :=
  cut_any lo hi op a len cap S w h hroom

set_option maxHeartbeats 1600000 in
theorem split_bad (lo hi : ByteArray) (op : Bool) (a : Option Addr) (len cap : Nat) (c : Int) (w : World) (hc : Rg.chk ⟨lo, hi, op⟩ = c) (_hne : (c != 0) = true) (_hnz : ¬ c = 0) :
    Calls Try.prog 35 #[.agg #[.string lo, .string hi, .bool op], .slice a len cap] w fun e w' => e = .returned (.tuple #[.slice none 0 0, .int .i64 c]) ∧ Below w.heap.size w w' := by
  have C := aside (fun w => check_at hc w)
  clear hc
  go_enter Try.func35, Try.ntmps35
  go_wp2_with fail
  refine (C.out _).mono ?_
  rintro e w1 ⟨rfl, b1⟩
  go_wp2
  go_ret2
  exact ⟨rfl, bthen (bnew w _) b1⟩

theorem rising_at {a : Option Addr} {len cap : Nat} {T : Nat → Rg} {q : Bool} (hq : rises T len = q) (w : World) (h : RgsIn w.heap.size w a len cap T) :
    Calls Try.prog 22 #[.slice a len cap] w fun e w' => e = .returned (.bool q) ∧ Below w.heap.size w w' := by
  subst hq; exact rising_any a len cap T w h

set_option maxHeartbeats 1600000 in
theorem split_no (lo hi : ByteArray) (op : Bool) (a : Option Addr) (len cap : Nat) (S : Nat → ByteArray) (w : World) (hm : Rg.may ⟨lo, hi, op⟩ = true) (h : StrsIn w.heap.size w a len cap S) (hroom : (len + 1) * 40 ≤ 140737488355328) (hlen : 0 < len)
    (hq : rises (piece ⟨lo, hi, op⟩ S len) (len + 1) = false) :
    Calls Try.prog 35 #[.agg #[.string lo, .string hi, .bool op], .slice a len cap] w fun e w' =>
      e = .returned (.tuple #[.slice none 0 0, .int .i64 22]) ∧ Below w.heap.size w w' := by
  have C := aside (fun w => check_at (may_chk hm) w)
  have H := aside h
  have hl0 : (0 : Int) < (len : Int) := by omega
  clear hm h
  go_enter Try.func35, Try.ntmps35
  go_wp2_with fail
  refine (C.out _).mono ?_
  rintro e w1 ⟨rfl, b1⟩
  obtain ⟨q0, q1, q2⟩ := box3 b1
  have b01 := bthen (bnew w (.cells #[.string lo, .string hi, .bool op] 23)) b1
  clear b1
  go_wp2_with fail
  refine (cut_at hroom _ (H.out.up b01 b01.size)).mono ?_
  rintro e w2 ⟨g, cp, rfl, hown, hg, b2⟩
  have OW := aside hown
  have HQ := aside hq
  have b02 := bthen b01 b2
  have RR := aside (rgs_of_row hown hg (by omega))
  clear hown q0 q1 q2 hq
  go_wp2_with fail
  refine (rising_at HQ.out _ RR.out).mono ?_
  rintro e w3 ⟨rfl, b3⟩
  have b03 := bthen b02 b3
  clear OW b3 RR
  go_wp2
  go_ret2
  exact ⟨rfl, b03⟩

set_option maxHeartbeats 1600000 in
theorem split_yes (lo hi : ByteArray) (op : Bool) (a : Option Addr) (len cap : Nat) (S : Nat → ByteArray) (w : World) (hm : Rg.may ⟨lo, hi, op⟩ = true) (h : StrsIn w.heap.size w a len cap S) (hroom : (len + 1) * 40 ≤ 140737488355328) (hlen : 0 < len)
    (hq : rises (piece ⟨lo, hi, op⟩ S len) (len + 1) = true) :
    Calls Try.prog 35 #[.agg #[.string lo, .string hi, .bool op], .slice a len cap] w fun e w' =>
      ∃ g cp, e = .returned (.tuple #[.slice (some ⟨g, 0, none⟩) (len + 1) cp, .int .i64 0]) ∧ w'.ownsRow w.heap.size 23 3 (.slice (some ⟨g, 0, none⟩) (len + 1) cp) (len + 1) (rgCells (piece ⟨lo, hi, op⟩ S len) (len + 1)) ∧ g < w'.heap.size ∧ Below w.heap.size w w' := by
  have C := aside (fun w => check_at (may_chk hm) w)
  have H := aside h
  have hl0 : (0 : Int) < (len : Int) := by omega
  clear hm h
  go_enter Try.func35, Try.ntmps35
  go_wp2_with fail
  refine (C.out _).mono ?_
  rintro e w1 ⟨rfl, b1⟩
  obtain ⟨q0, q1, q2⟩ := box3 b1
  have b01 := bthen (bnew w (.cells #[.string lo, .string hi, .bool op] 23)) b1
  clear b1
  go_wp2_with fail
  refine (cut_at hroom _ (H.out.up b01 b01.size)).mono ?_
  rintro e w2 ⟨g, cp, rfl, hown, hg, b2⟩
  have OW := aside hown
  have HQ := aside hq
  have b02 := bthen b01 b2
  have RR := aside (rgs_of_row hown hg (by omega))
  clear hown q0 q1 q2 hq
  go_wp2_with fail
  refine (rising_at HQ.out _ RR.out).mono ?_
  rintro e w3 ⟨rfl, b3⟩
  have b03 := bthen b02 b3
  have OW3 := aside (row_base (row_below OW.out b3 hg) (Nat.le_trans b01.size (Nat.le_succ _)))
  have hg3 := Nat.lt_of_lt_of_le hg b3.size
  clear OW b3 RR
  go_wp2
  go_ret2
  exact ⟨g, cp, rfl, OW3.out, hg3, b03⟩

set_option maxHeartbeats 1600000 in
theorem split_none (lo hi : ByteArray) (op : Bool) (a : Option Addr) (cap : Nat) (w : World) (hm : Rg.may ⟨lo, hi, op⟩ = true) :
    Calls Try.prog 35 #[.agg #[.string lo, .string hi, .bool op], .slice a 0 cap] w fun e w' =>
      ∃ g cp, e = .returned (.tuple #[.slice (some ⟨g, 0, none⟩) 1 cp, .int .i64 0]) ∧ w'.ownsRow w.heap.size 23 3 (.slice (some ⟨g, 0, none⟩) 1 cp) 1 (rgCells (fun _ => ⟨lo, hi, op⟩) 1) ∧ g < w'.heap.size ∧ Below w.heap.size w w' := by
  have C := aside (fun w => check_at (may_chk hm) w)
  have H : Hid (∀ w : World, StrsIn w.heap.size w a 0 cap (fun _ => ByteArray.empty)) := aside (fun w => ⟨Nat.zero_le _, by omega, .inl rfl⟩)
  clear hm
  go_enter Try.func35, Try.ntmps35
  go_wp2_with fail
  refine (C.out _).mono ?_
  rintro e w1 ⟨rfl, b1⟩
  obtain ⟨q0, q1, q2⟩ := box3 b1
  have b01 := bthen (bnew w (.cells #[.string lo, .string hi, .bool op] 23)) b1
  clear b1
  go_wp2_with fail
  refine (cut_at (by omega) _ (H.out _)).mono ?_
  rintro e w2 ⟨g, cp, rfl, hown, hg, b2⟩
  have OW := aside (row_base hown (Nat.le_trans b01.size (Nat.le_succ _)))
  have b02 := bthen b01 b2
  clear hown q0 q1 q2
  go_wp2
  go_ret2
  exact ⟨g, cp, rfl, OW.out, hg, b02⟩

end Go.Proofs.Ytagcenfjdjaaaaa

/-
  Split, the code's, at any borders: what it returns, and where that lies. And count, the law's own.
-/
import Derived.Test.YtidajlnaehhkkaaSOnce
namespace Go.Proofs.Ytidajlnaehhkkaa
open Go.RowKit

/-- The number that Split gives. -/
def splitE (r : Rg) (S : Nat → ByteArray) (len : Nat) : Int :=
  if r.may = true then (if 0 < len ∧ rises (piece r S len) (len + 1) = false then 22 else 0) else r.chk

/-- How many ranges Split gives. -/
def splitN (r : Rg) (S : Nat → ByteArray) (len : Nat) : Nat := if splitE r S len = 0 then len + 1 else 0

theorem rgs_of_own {w : World} {B : Nat} {a : Option Addr} {n cap : Nat} {f : Nat → Rg} (h : w.ownsRow B 23 3 (.slice a n cap) n (rgCells f n)) (hb : n * 40 ≤ 281474976710656) : RgsIn w.heap.size w a n cap f := by
  have h' := h
  rcases h.2 with ⟨h1, h2⟩ | ⟨g, cap', cur, h1, h2, h3, h4⟩
  · cases h1; exact ⟨Nat.le_refl _, by omega, .inl rfl⟩
  · cases h1
    exact rgs_of_row h' (lies h3) hb

/-- What Split hands back. -/
def Splits (r : Rg) (S : Nat → ByteArray) (len : Nat) (w : World) (e : Ending) (w' : World) : Prop :=
  ∃ a cp, e = .returned (.tuple #[.slice a (splitN r S len) cp, .int .i64 (splitE r S len)]) ∧ w'.ownsRow w.heap.size 23 3 (.slice a (splitN r S len) cp) (splitN r S len) (rgCells (piece r S len) (splitN r S len)) ∧ Below w.heap.size w w'

theorem split_any (lo hi : ByteArray) (op : Bool) (a : Option Addr) (len cap : Nat) (S : Nat → ByteArray) (w : World) (h : StrsIn w.heap.size w a len cap S) (hroom : (len + 1) * 40 ≤ 140737488355328) :
    Calls Try.prog 20 #[.agg #[.string lo, .string hi, .bool op], .slice a len cap] w fun e w' => Splits ⟨lo, hi, op⟩ S len w e w' := by
  cases hm : Rg.may ⟨lo, hi, op⟩
  · obtain ⟨c, hc, hne, hnz⟩ := may_not hm
    have e1 : splitE ⟨lo, hi, op⟩ S len = c := by unfold splitE; rw [hm, if_neg (by simp), hc]
    have e2 : splitN ⟨lo, hi, op⟩ S len = 0 := by unfold splitN; rw [e1, if_neg hnz]
    refine (split_bad lo hi op a len cap c w hc hne hnz).mono fun e w' ⟨he, hb⟩ => ⟨none, 0, ?_, ?_, hb⟩
    · rw [he, e1, e2]
    · rw [e2]; exact ⟨rfl, .inl ⟨rfl, rfl⟩⟩
  · rcases Nat.eq_zero_or_pos len with rfl | hpos
    · have e1 : splitE ⟨lo, hi, op⟩ S 0 = 0 := by unfold splitE; rw [hm, if_pos rfl, if_neg (by omega)]
      have e2 : splitN ⟨lo, hi, op⟩ S 0 = 1 := by unfold splitN; rw [e1, if_pos rfl]
      refine (split_none lo hi op a cap w hm).mono fun e w' ⟨g, cp, he, ho, hg, hb⟩ => ⟨some ⟨g, 0, none⟩, cp, ?_, ?_, hb⟩
      · rw [he, e1, e2]
      · rw [e2]; exact ho
    · cases hq : rises (piece ⟨lo, hi, op⟩ S len) (len + 1)
      · have e1 : splitE ⟨lo, hi, op⟩ S len = 22 := by unfold splitE; rw [hm, if_pos rfl, if_pos ⟨hpos, hq⟩]
        have e2 : splitN ⟨lo, hi, op⟩ S len = 0 := by unfold splitN; rw [e1, if_neg (by omega)]
        refine (split_no lo hi op a len cap S w hm h hroom hpos hq).mono fun e w' ⟨he, hb⟩ => ⟨none, 0, ?_, ?_, hb⟩
        · rw [he, e1, e2]
        · rw [e2]; exact ⟨rfl, .inl ⟨rfl, rfl⟩⟩
      · have e1 : splitE ⟨lo, hi, op⟩ S len = 0 := by unfold splitE; rw [hm, if_pos rfl, if_neg (by rw [hq]; simp)]
        have e2 : splitN ⟨lo, hi, op⟩ S len = len + 1 := by unfold splitN; rw [e1, if_pos rfl]
        refine (split_yes lo hi op a len cap S w hm h hroom hpos hq).mono fun e w' ⟨g, cp, he, ho, hg, hb⟩ => ⟨some ⟨g, 0, none⟩, cp, ?_, ?_, hb⟩
        · rw [he, e1, e2]
        · rw [e2]; exact ho

theorem cnt_le (T : Nat → Rg) (k : ByteArray) : ∀ n, cnt T k n ≤ n
  | 0 => Nat.le_refl _
  | n + 1 => by
    have := cnt_le T k n
    rw [cnt]
    cases (T n).has k <;> simp <;> omega

set_option maxRecDepth 100000 in
set_option maxHeartbeats 2000000 in
theorem count_any (a : Option Addr) (len cap : Nat) (T : Nat → Rg) (k : ByteArray) (w : World) (h : RgsIn w.heap.size w a len cap T) :
    Calls Try.prog 27 #[.slice a len cap, .string k] w fun e w' => e = .returned (.int .i64 (cnt T k len : Nat)) ∧ Below w.heap.size w w' := by
  obtain ⟨hlc, hcm, hh⟩ := h
  go_enter Try.func27, Try.ntmps27
  go_wp2
  go_loopw [5, 10] (fun c i wr => ∃ m : Nat, m ≤ len ∧ i = .int .i64 (m : Int) ∧ c = .int .i64 ((cnt T k m : Nat) : Int) ∧ Below w.heap.size w wr) (fun _ i _ => len - (intOf i).toNat)
  case atStart => exact ⟨0, Nat.zero_le _, rfl, rfl, Below.refl _ _⟩
  case round =>
    obtain ⟨m, hk, rfl, rfl, hnx⟩ := hrel
    by_cases hlt : (m : Int) < (len : Int)
    · rcases hh with hh | ⟨b, off, rfl, hb, hc⟩
      · omega
      · obtain ⟨c0, c1, c2⟩ := hc m (by omega)
        have c0' := (hnx.cell (p := ⟨b, off + m * 3, none⟩) hb).trans c0
        have c1' := (hnx.cell (p := ⟨b, off + m * 3 + 1, none⟩) hb).trans c1
        have c2' := (hnx.cell (p := ⟨b, off + m * 3 + 2, none⟩) hb).trans c2
        clear hc c0 c1 c2
        have hk0 : (0 : Int) ≤ (m : Int) := by omega
        have hcl := cnt_le T k m
        obtain ⟨c, hcc⟩ : ∃ c, cnt T k m = c := ⟨_, rfl⟩
        cases he : Rg.has ⟨(T m).lo, (T m).hi, (T m).op⟩ k
        · have CE := aside (fun w => holds_at he w)
          have HE := aside (show cnt T k (m + 1) = c by rw [cnt, hcc, show (T m).has k = false from he]; rfl)
          clear he
          rw [hcc] at hcl ⊢
          clear hcc
          go_wp2_with fail
          refine (CE.out _).mono ?_
          rintro e w1 ⟨rfl, b1⟩
          have hn2 := (hnx.alloc hnx.size (.cells #[.string (T m).lo, .string (T m).hi, .bool (T m).op] 23)).trans (b1.mono (by simp; have := hnx.size; omega))
          clear c0' c1' c2' CE b1
          go_wp2
          go_roundw
          case rel => exact ⟨m + 1, by omega, by go_num, by rw [HE.out], hn2⟩
          case measure => simp [intOf]; omega
        · have CE := aside (fun w => holds_at he w)
          have HE := aside (show cnt T k (m + 1) = c + 1 by rw [cnt, hcc, show (T m).has k = true from he]; rfl)
          clear he
          rw [hcc] at hcl ⊢
          clear hcc
          have hw : IntKind.i64.wrap ((c : Int) + 1) = (c : Int) + 1 := by simp only [IntKind.wrap_i64]; omega
          go_wp2_with fail
          refine (CE.out _).mono ?_
          rintro e w1 ⟨rfl, b1⟩
          have hn2 := (hnx.alloc hnx.size (.cells #[.string (T m).lo, .string (T m).hi, .bool (T m).op] 23)).trans (b1.mono (by simp; have := hnx.size; omega))
          clear c0' c1' c2' CE b1
          go_wp2
          go_roundw
          case rel => exact ⟨m + 1, by omega, by go_num, by rw [HE.out]; rfl, hn2⟩
          case measure => simp [intOf]; omega
    · obtain rfl : len = m := by omega
      go_wp2
      go_ret
      exact ⟨rfl, hnx⟩

end Go.Proofs.Ytidajlnaehhkkaa

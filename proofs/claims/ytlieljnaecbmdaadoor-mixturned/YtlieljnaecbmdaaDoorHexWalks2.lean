/-
  Hex, the code's and the document's own: each returns the text of the bytes and writes nothing that was there.
-/
import Derived.Test.YtlieljnaecbmdaaDoorIdxByte
import Derived.Test.YtlieljnaecbmdaaDoorBytes1
import Derived.Deep.RegionHeld3
namespace Go.Proofs.YtlieljnaecbmdaaDoor
open Go.RowKit

/-- A digit out of the sixteen, in the walk's own spelling of its index. -/
theorem idx_digs (i : Int) (n : Nat) (h : i = (n : Int)) (hn : n < 16) (w : World) :
    (Instr.index 9 (.string ⟨#[48, 49, 50, 51, 52, 53, 54, 55, 56, 57, 97, 98, 99, 100, 101, 102]⟩) (.int .u8 i)).run Tryd.prog w = .ok (.int .u8 ((Hx.digs.getD n 0).toNat : Int)) w := by
  subst h
  rw [run_index_string w 9 _ .u8 _ Tryd.underlying9, dif_pos ⟨by omega, by show (n : Int) < ((16 : Nat) : Int); omega⟩]
  match n, hn with
  | 0, _ | 1, _ | 2, _ | 3, _ | 4, _ | 5, _ | 6, _ | 7, _ | 8, _ | 9, _ | 10, _ | 11, _ | 12, _ | 13, _ | 14, _ | 15, _ => rfl
  | n + 16, h => omega

/-- A byte of a text. -/
theorem idx_str (s : ByteArray) (k : Nat) (hk : k < s.size) (w : World) :
    (Instr.index 9 (.string s) (.int .i64 (k : Int))).run Tryd.prog w = .ok (.int .u8 (s[k].toNat : Int)) w := by
  rw [run_index_string w 9 _ .i64 _ Tryd.underlying9, dif_pos ⟨by omega, by omega⟩]
  simp only [Int.toNat_natCast]

theorem rel_hex {w wr w1 : World} {o : Obj} {u v : Value} {s : ByteArray} {k : Nat} {c : UInt8} {xs : List Value} (hnx : Below w.heap.size w wr)
    (hown : wr.ownsRow w.heap.size 5 1 u (2 * k) xs) (hgrow : (wr.alloc o).drew.grownBy w1 u.ownBlock)
    (hT : s.data.toList.take (k + 1) = s.data.toList.take k ++ [c])
    (hown1 : w1.ownsRow w.heap.size 5 1 v (2 * k + 2) (Lib.byteCells (Hx.hex (s.data.toList.take k)) ++ [.int .u8 ((Hx.digs.getD (c.toNat / 16) 0).toNat : Int), .int .u8 ((Hx.digs.getD (c.toNat % 16) 0).toNat : Int)])) :
    w1.ownsRow w.heap.size 5 1 v (2 * (k + 1)) (Lib.byteCells (Hx.hex (s.data.toList.take (k + 1)))) ∧ Below w.heap.size w w1 := by
  refine ⟨?_, ((hnx.alloc hnx.size o).drew).grown hgrow (by simp; have := hnx.size; omega) (fun j hj => (hown.lt j hj).1)⟩
  rw [hT, Hx.hex_snoc, Lib.byteCells_append]
  exact hown1

set_option maxHeartbeats 3200000 in
set_option maxRecDepth 100000 in
theorem hex_any (s : ByteArray) (w : World) (hs : s.size ≤ 2147483648) :
    Calls Tryd.prog 29 #[.string s] w fun e w' => e = .returned (.string ⟨(Hx.hex s.data.toList).toArray⟩) ∧ Below w.heap.size w w' := by
  obtain ⟨i0, hi, hz0, hz1, hz2⟩ := info_parts info8
  go_enter Tryd.func29, Tryd.ntmps29
  go_wp2_with (at_make; refine wpList_make_own _ rfl _ _ 59 rfl w.heap.size 5 i0 (.int .u8 0) 1 Tryd.underlying59 hi hz0 hz1 _ _ _ (2 * s.size) rfl rfl (by omega) ?b2 ?b3 (Nat.le_refl _) ?_)
  case b2 => rw [hz2]; omega
  case b3 => unfold maxLen; omega
  intro w0 hown0 hgrow0
  go_wp2
  go_loopw [3, 11] (fun v i wr => ∃ k : Nat, k ≤ s.size ∧ i = .int .i64 k ∧ wr.ownsRow w.heap.size 5 1 v (2 * k) (Lib.byteCells (Hx.hex (s.data.toList.take k))) ∧ Below w.heap.size w wr)
    (fun _ i _ => s.size - (intOf i).toNat)
  case atStart => exact ⟨0, Nat.zero_le _, rfl, hown0, (Below.refl _ _).grown hgrow0 (Nat.le_refl _) (fun k h => by cases h)⟩
  case round =>
    obtain ⟨k, hk, rfl, hown, hnx⟩ := hrel
    by_cases hlt : k < s.size
    · have hk0 : (0 : Int) ≤ (k : Int) := Int.natCast_nonneg _
      have hk1 : (k : Int) < (s.size : Int) := by omega
      have hix := idx_str s k hlt
      have hts := take_snoc s k hlt
      obtain ⟨c, hc⟩ : ∃ c, c = s[k] := ⟨_, rfl⟩
      rw [← hc] at hix hts
      have HC : Hid (c = s[k]) := hc
      have HT : Hid (s.data.toList.take (k + 1) = s.data.toList.take k ++ [c]) := hts
      clear hc hts
      have hb := c.toNat_lt
      have hd1 := idx_digs ((c.toNat : Int) / 16) (c.toNat / 16) (by omega) (by omega)
      have hd2 := idx_digs ((c.toNat : Int) % 16) (c.toNat % 16) (by omega) (by omega)
      have hw1 : IntKind.u8.wrap ((c.toNat : Int) / 16) = (c.toNat : Int) / 16 := by simp only [IntKind.wrap_u8]; omega
      have hd3 := idx_digs ((c.toNat : Int).tmod 16) (c.toNat % 16) (by rw [Int.tmod_eq_emod_of_nonneg (by omega)]; omega) (by omega)
      have hw2 : IntKind.u8.wrap ((c.toNat : Int) % 16) = (c.toNat : Int) % 16 := by simp only [IntKind.wrap_u8]; omega
      go_wp2_with fail
      go_region_held3 (fun _ => True) (trivial)
        ((refine step_append_lies _ (by rfl) _ _ _ (by rfl) w.heap.size 5 i0 (.int .u8 0) 1 1 Tryd.underlying59 hi hz0 hz1 hz2 rfl (by decide) _ _ _ (by rfl) ((hown.alloc _).drew) ⟨wr.heap.size, 0, none⟩ 2 2 [.int .u8 ((Hx.digs.getD (c.toNat / 16) 0).toNat : Int), .int .u8 ((Hx.digs.getD (c.toNat % 16) 0).toNat : Int)] (by rfl) (by rfl) (World.news_of_block (cs := #[.int .u8 ((Hx.digs.getD (c.toNat / 16) 0).toNat : Int), .int .u8 ((Hx.digs.getD (c.toNat % 16) 0).toNat : Int)]) (t := 5) (fr := (0, 0)) (heap_alloc_new wr _)) (by simp [Value.oneCell']) (by omega) (by unfold maxLen; omega) (by omega) (by have := hnx.size; simp; omega) (wr.heap.size + 1) (by simp) ?_; intro g cap w1 hown1 hgrow hat hlt1))
      all_goals
        have R := rel_hex hnx hown hgrow HT.out hown1
        clear hown hown1 hgrow hnx hd1 hd2 hd3 hix hat
        go_wp2
        go_roundw
        case rel => exact ⟨k + 1, by omega, by go_num, R.1, R.2⟩
        case measure => simp [intOf]; omega
    · have hkl : k = s.size := by omega
      subst hkl
      rw [take_all] at hown
      have hcv := conv_own wr w.heap.size _ (Hx.hex s.data.toList) (by rw [Hx.hex_length]; exact hown)
      go_wp2
      go_ret
      exact ⟨rfl, hnx⟩

end Go.Proofs.YtlieljnaecbmdaaDoor

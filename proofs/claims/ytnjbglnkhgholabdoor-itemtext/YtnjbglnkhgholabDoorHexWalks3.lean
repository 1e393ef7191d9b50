/-
  The document's own Hex: it returns the text of the bytes and writes nothing that was there.
-/
import Derived.Test.YtnjbglnkhgholabDoorHexWalks2
namespace Go.Proofs.YtnjbglnkhgholabDoor
open Go.RowKit

set_option maxHeartbeats 3200000 in
set_option maxRecDepth 100000 in
theorem hexRef_any (s : ByteArray) (w : World) (hs : s.size ≤ 2147483648) :
    Calls Tryd.prog 13 #[.string s] w fun e w' => e = .returned (.string ⟨(Hx.hex s.data.toList).toArray⟩) ∧ Below w.heap.size w w' := by
  obtain ⟨i0, hi, hz0, hz1, hz2⟩ := info_parts info8
  have hown0 : (w.alloc (.cells #[] 5)).ownsRow w.heap.size 5 1 (.slice (some ⟨w.heap.size, 0, none⟩) 0 0) 0 [] := World.ownsRow_made w #[] 0 (Nat.le_refl _) (Nat.zero_le _) rfl
  go_enter Tryd.func13, Tryd.ntmps13
  go_wp2
  go_loopw [4, 5] (fun v i wr => ∃ k : Nat, k ≤ s.size ∧ i = .int .i64 k ∧ wr.ownsRow w.heap.size 5 1 v (2 * k) (Lib.byteCells (Hx.hex (s.data.toList.take k))) ∧ Below w.heap.size w wr)
    (fun _ i _ => s.size - (intOf i).toNat)
  case atStart => exact ⟨0, Nat.zero_le _, rfl, hown0, (Below.refl _ _).alloc (Nat.le_refl _) _⟩
  case round =>
    obtain ⟨k, hk, rfl, hown, hnx⟩ := hrel
    by_cases hlt : k < s.size
    · have hk0 : (0 : Int) ≤ (k : Int) := Int.natCast_nonneg _
      have hk1 : (k : Int) < (s.size : Int) := by omega
      have hix := idx_str s k hlt
      have hts := take_snoc s k hlt
      obtain ⟨c, hc⟩ : ∃ c, c = s[k] := ⟨_, rfl⟩
      rw [← hc] at hix hts
      have HC : Hid (c = s[k]) := hc
      have HT : Hid (s.data.toList.take (k + 1) = s.data.toList.take k ++ [c]) := hts
      clear hc hts
      have hb := c.toNat_lt
      have hd1 := idx_digs ((c.toNat : Int) / 16) (c.toNat / 16) (by omega) (by omega)
      have hd2 := idx_digs ((c.toNat : Int) % 16) (c.toNat % 16) (by omega) (by omega)
      have hw1 : IntKind.u8.wrap ((c.toNat : Int) / 16) = (c.toNat : Int) / 16 := by simp only [IntKind.wrap_u8]; omega
      have hd3 := idx_digs ((c.toNat : Int).tmod 16) (c.toNat % 16) (by rw [Int.tmod_eq_emod_of_nonneg (by omega)]; omega) (by omega)
      have hw2 : IntKind.u8.wrap ((c.toNat : Int) % 16) = (c.toNat : Int) % 16 := by simp only [IntKind.wrap_u8]; omega
      go_wp2_with fail
      go_region_held3 (fun _ => True) (trivial)
        ((refine step_append_lies _ (by rfl) _ _ _ (by rfl) w.heap.size 5 i0 (.int .u8 0) 1 1 Tryd.underlying44 hi hz0 hz1 hz2 rfl (by decide) _ _ _ (by rfl) ((hown.alloc _).drew) ⟨wr.heap.size, 0, none⟩ 2 2 [.int .u8 ((Hx.digs.getD (c.toNat / 16) 0).toNat : Int), .int .u8 ((Hx.digs.getD (c.toNat % 16) 0).toNat : Int)] (by rfl) (by rfl) (World.news_of_block (cs := #[.int .u8 ((Hx.digs.getD (c.toNat / 16) 0).toNat : Int), .int .u8 ((Hx.digs.getD (c.toNat % 16) 0).toNat : Int)]) (t := 5) (fr := (0, 0)) (heap_alloc_new wr _)) (by simp [Value.oneCell']) (by omega) (by unfold maxLen; omega) (by omega) (by have := hnx.size; simp; omega) (wr.heap.size + 1) (by simp) ?_; intro g cap w1 hown1 hgrow hat hlt1))
      all_goals
        have R := rel_hex hnx hown hgrow HT.out hown1
        clear hown hown1 hgrow hnx hd1 hd2 hd3 hix hat
        go_wp2
        go_roundw
        case rel => exact ⟨k + 1, by omega, by go_num, R.1, R.2⟩
        case measure => simp [intOf]; omega
    · have hkl : k = s.size := by omega
      subst hkl
      rw [take_all] at hown
      have hcv := conv_own wr w.heap.size _ (Hx.hex s.data.toList) (by rw [Hx.hex_length]; exact hown)
      go_wp2
      go_ret
      exact ⟨rfl, hnx⟩

end Go.Proofs.YtnjbglnkhgholabDoor

/-
  The document's own text of bytes (layer 2's): it returns the text and writes nothing that was there.
-/
import Derived.Test.YtidajlnaehhkkabHexWalks2
namespace Go.Proofs.Ytidajlnaehhkkab
open Go.RowKit

/-- One of the sixteen digits, cut out as a text. -/
theorem cut_dig (i j : Int) (n : Nat) (h : i = (n : Int)) (hj : j = i + 1) (hn : n < 16) (w : World) :
    (Instr.slice 9 (.string ⟨#[48, 49, 50, 51, 52, 53, 54, 55, 56, 57, 97, 98, 99, 100, 101, 102]⟩) (some (.int .u8 i)) (some (.int .u8 j)) none).run Try.prog w = .ok (.string ⟨#[Hx.digs.getD n 0]⟩) w := by
  subst h; subst hj
  rw [run_slice_string w 9 _ .u8 .u8 _ _ Try.underlying9 (by omega) (by omega) (by show (n : Int) + 1 ≤ ((16 : Nat) : Int); omega)]
  match n, hn with
  | 0, _ | 1, _ | 2, _ | 3, _ | 4, _ | 5, _ | 6, _ | 7, _ | 8, _ | 9, _ | 10, _ | 11, _ | 12, _ | 13, _ | 14, _ | 15, _ => rfl
  | n + 16, h => omega

set_option maxHeartbeats 3200000 in
set_option maxRecDepth 100000 in
theorem hex02_any (s : ByteArray) (w : World) (hs : s.size ≤ 16) :
    Calls Try.prog 20 #[.string s] w fun e w' => e = .returned (.string ⟨(Hx.hex s.data.toList).toArray⟩) ∧ Below w.heap.size w w' := by
  go_enter Try.func20, Try.ntmps20
  go_wp2
  go_loopw [3, 4] (fun v i wr => ∃ (k : Nat) (t : ByteArray), k ≤ s.size ∧ v = .string t ∧ i = .int .i64 k ∧ Hid (t = ⟨(Hx.hex (s.data.toList.take k)).toArray⟩) ∧ Below w.heap.size w wr)
    (fun _ i _ => s.size - (intOf i).toNat)
  case atStart => exact ⟨0, ⟨#[]⟩, Nat.zero_le _, rfl, rfl, rfl, Below.refl _ _⟩
  case round =>
    obtain ⟨k, t, hk, rfl, rfl, HT, hnx⟩ := hrel
    by_cases hlt : k < s.size
    · have hk0 : (0 : Int) ≤ (k : Int) := Int.natCast_nonneg _
      have hk1 : (k : Int) < (s.size : Int) := by omega
      have hix := idx_str s k hlt
      have hts := take_snoc s k hlt
      obtain ⟨c, hc⟩ : ∃ c, c = s[k] := ⟨_, rfl⟩
      rw [← hc] at hix hts
      have HS := aside hts
      clear hc hts
      have hb := c.toNat_lt
      have htl : t.size ≤ 32 := by
        rw [HT.out]
        show (Hx.hex (s.data.toList.take k)).toArray.size ≤ 32
        simp only [List.size_toArray, Hx.hex_length, List.length_take]
        omega
      have hd1 := cut_dig ((c.toNat : Int) / 16) ((c.toNat : Int) / 16 + 1) (c.toNat / 16) (by omega) rfl (by omega)
      have hd2 := cut_dig ((c.toNat : Int) % 16) ((c.toNat : Int) % 16 + 1) (c.toNat % 16) (by omega) rfl (by omega)
      have hd3 := cut_dig ((c.toNat : Int).tmod 16) ((c.toNat : Int).tmod 16 + 1) (c.toNat % 16) (by rw [Int.tmod_eq_emod_of_nonneg (by omega)]; omega) rfl (by omega)
      have hw1 : IntKind.u8.wrap ((c.toNat : Int) / 16) = (c.toNat : Int) / 16 := by simp only [IntKind.wrap_u8]; omega
      have hw2 : IntKind.u8.wrap ((c.toNat : Int) % 16) = (c.toNat : Int) % 16 := by simp only [IntKind.wrap_u8]; omega
      have hw3 : IntKind.u8.wrap ((c.toNat : Int) / 16 + 1) = (c.toNat : Int) / 16 + 1 := by simp only [IntKind.wrap_u8]; omega
      have hw4 : IntKind.u8.wrap ((c.toNat : Int) % 16 + 1) = (c.toNat : Int) % 16 + 1 := by simp only [IntKind.wrap_u8]; omega
      have hw5 : IntKind.u8.wrap ((c.toNat : Int).tmod 16 + 1) = (c.toNat : Int).tmod 16 + 1 := by rw [Int.tmod_eq_emod_of_nonneg (by omega)]; simp only [IntKind.wrap_u8]; omega
      obtain ⟨dx, hdx⟩ : ∃ d : ByteArray, d = ⟨#[Hx.digs.getD (c.toNat / 16) 0]⟩ := ⟨_, rfl⟩
      obtain ⟨dy, hdy⟩ : ∃ d : ByteArray, d = ⟨#[Hx.digs.getD (c.toNat % 16) 0]⟩ := ⟨_, rfl⟩
      rw [← hdx] at hd1
      rw [← hdy] at hd2 hd3
      obtain ⟨dz, hdz⟩ : ∃ d : ByteArray, d = dx ++ dy := ⟨_, rfl⟩
      obtain ⟨t', ht'⟩ : ∃ d : ByteArray, d = t ++ dz := ⟨_, rfl⟩
      have hadd1 : ∀ wx, (Op.stringOp .add dx dy).run Try.prog wx = .ok (.string dz) wx := fun wx => by rw [hdz]; exact run_string_add_sum wx dx dy (by rw [hdx, hdy]; show 1 + 1 ≤ _; omega)
      have hadd2 : ∀ wx, (Op.stringOp .add t dz).run Try.prog wx = .ok (.string t') wx := fun wx => by rw [ht']; exact run_string_add_sum wx t dz (by rw [hdz, hdx, hdy]; show t.size + 2 ≤ _; omega)
      have HN : Hid (t' = ⟨(Hx.hex (s.data.toList.take (k + 1))).toArray⟩) := by
        show t' = _
        rw [HS.out, Hx.hex_snoc, ht', HT.out, hdz, hdx, hdy]
        apply ByteArray.ext
        simp
      clear hdx hdy hdz ht' htl HT HS
      go_wp2_with fail
      go_region
      all_goals
        go_wp2
        go_roundw
        case rel => exact ⟨k + 1, t', by omega, rfl, by go_num, HN, hnx.drew⟩
        case measure => simp [intOf]; omega
    · have hkl : k = s.size := by omega
      subst hkl
      rw [take_all] at HT
      go_wp2
      go_ret
      exact ⟨by rw [← HT.out]; rfl, hnx⟩

end Go.Proofs.Ytidajlnaehhkkab

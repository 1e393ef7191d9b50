/-
  The document's own Unhex: it returns the bytes of the text and no error, or nothing and ErrText; it writes nothing that was there.
-/
import Derived.Test.YtnjbglnkhgholabDoorHexWalks1
import Derived.Test.YtnjbglnkhgholabDoorHexWalks4
namespace Go.Proofs.YtnjbglnkhgholabDoor
open Go.RowKit

set_option maxHeartbeats 3200000 in
set_option maxRecDepth 100000 in
theorem unhexRef_any (s : ByteArray) (w : World) (hs : s.size ≤ 4294967296) :
    Calls Tryd.prog 17 #[.string s] w fun e w' => e = .returned (unhexVal s.data.toList) ∧ Below w.heap.size w w' := by
  obtain ⟨i0, hi, hz0, hz1, hz2⟩ := info_parts info8
  have hlen : s.data.toList.length = s.size := by show s.data.toList.length = s.data.size; simp
  by_cases hodd : s.size % 2 = 1
  · have hne : (((s.size : Int) % 2) == 1) = true := by rw [beq_iff_eq]; omega
    have hnone := unhexVal_none (Hx.unhex_odd _ s.data.toList (Nat.le_refl _) (by rw [hlen]; exact hodd))
    have HN : Hid (unhexVal s.data.toList = .tuple #[.string ⟨#[]⟩, .int .i64 23]) := hnone
    clear hnone
    go_enter Tryd.func17, Tryd.ntmps17
    go_wp2
    go_ret2
    exact ⟨by rw [HN.out]; rfl, Below.refl _ _⟩
  · have hne : (((s.size : Int) % 2) == 1) = false := by rw [beq_eq_false_iff_ne]; omega
    have hown0 : (w.alloc (.cells #[] 5)).ownsRow w.heap.size 5 1 (.slice (some ⟨w.heap.size, 0, none⟩) 0 0) 0 [] := World.ownsRow_made w #[] 0 (Nat.le_refl _) (Nat.zero_le _) rfl
    go_enter Tryd.func17, Tryd.ntmps17
    go_wp2
    go_loopw [4, 5] (fun v i wr => ∃ (k : Nat) (acc : List UInt8), 2 * k ≤ s.size ∧ acc.length = k ∧ i = .int .i64 (2 * (k : Int)) ∧ wr.ownsRow w.heap.size 5 1 v k (Lib.byteCells acc) ∧ Hx.unhex s.data.toList = (Hx.unhex (s.data.toList.drop (2 * k))).map (acc ++ ·) ∧ Below w.heap.size w wr)
      (fun _ i _ => s.size - (intOf i).toNat)
    case atStart => exact ⟨0, [], Nat.zero_le _, rfl, rfl, hown0, by simp, (Below.refl _ _).alloc (Nat.le_refl _) _⟩
    case round =>
      obtain ⟨k, acc, hk, hacc, rfl, hown, hun, hnx⟩ := hrel
      by_cases hlt : 2 * k < s.size
      · have hk1 : 2 * (k : Int) < (s.size : Int) := by omega
        have hk2 : 2 * (k : Int) + 1 < (s.size : Int) := by omega
        have hix := idx_str' s (2 * k) (by omega) (2 * (k : Int)) (by omega)
        have hix2 := idx_str' s (2 * k + 1) (by omega) (2 * (k : Int) + 1) (by omega)
        rw [drop_two s k (by omega)] at hun
        obtain ⟨a, hA⟩ : ∃ a, a = s[2 * k]'(by omega) := ⟨_, rfl⟩
        obtain ⟨b, hB⟩ : ∃ b, b = s[2 * k + 1]'(by omega) := ⟨_, rfl⟩
        rw [← hA] at hix hun
        rw [← hB] at hix2 hun
        clear hA hB
        have HU := aside hun
        have HA := aside hacc
        clear hun hacc
        by_cases ha : Hx.worth a < 16
        · by_cases hb : Hx.worth b < 16
          · go_wp2_with fail
            refine (digit_yes a ha _).mono ?_
            rintro e w' ⟨rfl, rfl⟩
            go_wp2_with fail
            refine (digit_yes b hb _).mono ?_
            rintro e w' ⟨rfl, rfl⟩
            go_wp2_with (at_builtin; refine wpList_append_lies _ rfl _ _ _ rfl w.heap.size 5 i0 (.int .u8 0) 1 1 Tryd.underlying44 hi hz0 hz1 hz2 rfl (by decide) _ _ _ (by rfl) (hown.alloc _) ⟨w'.heap.size, 0, none⟩ 1 1 [.int .u8 (16 * (Hx.worth a : Int) + (Hx.worth b : Int))] (by rfl) (by rfl) (World.news_of_block (cs := #[.int .u8 (16 * (Hx.worth a : Int) + (Hx.worth b : Int))]) (t := 5) (fr := (0, 0)) (heap_alloc_new w' _)) (by simp [Value.oneCell']) (by omega) (by unfold maxLen; omega) (by omega) (by have := hnx.size; simp; omega) (w'.heap.size + 1) (by simp) ?_; intro g cap w1 hown1 hgrow hat hlt1; refine Hid.out ?_)
            refine aside ?_
            have R := rel_unhex hnx.size hnx hown hgrow HU.out ⟨ha, hb⟩ (by omega) hown1
            clear hown hown1 hgrow hnx hat hix hix2
            go_wp2
            go_roundw
            case rel => exact ⟨k + 1, _, by omega, by rw [List.length_append, HA.out]; rfl, by go_num, R.1, R.2.1, R.2.2⟩
            case measure => simp [intOf]; omega
          · go_wp2_with fail
            refine (digit_yes a ha _).mono ?_
            rintro e w' ⟨rfl, rfl⟩
            go_wp2_with fail
            refine (digit_no b hb _).mono ?_
            rintro e w' ⟨rfl, rfl⟩
            go_wp2
            go_ret2
            exact ⟨by rw [unhexVal_none (HU.out.trans (by rw [Hx.unhex_stop a b _ (fun h => hb h.2)]; rfl))]; rfl, hnx⟩
        · go_wp2_with fail
          refine (digit_no a ha _).mono ?_
          rintro e w' ⟨rfl, rfl⟩
          go_wp2_with fail
          refine (digit_any b _).mono ?_
          rintro e w' ⟨rfl, rfl⟩
          go_wp2
          go_ret2
          exact ⟨by rw [unhexVal_none (HU.out.trans (by rw [Hx.unhex_stop a b _ (fun h => ha h.1)]; rfl))]; rfl, hnx⟩
      · have hkl : 2 * k = s.size := by omega
        have hun' : Hx.unhex s.data.toList = some acc := by rw [hun, List.drop_of_length_le (by rw [hlen]; omega)]; simp [Hx.unhex]
        have HF : Hid (unhexVal s.data.toList = .tuple #[.string ⟨acc.toArray⟩, .int .i64 0]) := unhexVal_some hun'
        have hcv := conv_own wr w.heap.size _ acc (by rw [hacc]; exact hown)
        clear hun hun' hkl hacc
        go_wp2
        go_ret2
        exact ⟨by rw [HF.out]; rfl, hnx⟩

end Go.Proofs.YtnjbglnkhgholabDoor

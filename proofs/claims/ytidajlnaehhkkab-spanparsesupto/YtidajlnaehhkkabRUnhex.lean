/-
  The document's own bytes of a text (layer 2's): it returns the bytes and true, or nothing and false; it writes nothing that was there.
-/
import Derived.Test.YtidajlnaehhkkabIdxByte
import Derived.Test.YtidajlnaehhkkabHexWalks4
import Derived.Deep.RegionHeld3
namespace Go.Proofs.Ytidajlnaehhkkab
open Go.RowKit

set_option maxHeartbeats 400000 in
theorem digit_any (c : UInt8) (w : World) :
    Calls Try.prog 29 #[.int .u8 c.toNat] w fun e w' => e = .returned (.int .i64 (worthI c)) ∧ w' = w := by
  have hlt := c.toNat_lt
  have hlt' : (c.toNat : Int) < 256 := by omega
  by_cases h1 : (48 : Int) ≤ c.toNat
  · by_cases h2 : (c.toNat : Int) ≤ 57
    · go_enter Try.func29, Try.ntmps29
      go_wp2
      go_ret
      exact ⟨ret_int (by unfold worthI Hx.worth; rw [if_pos (show 48 ≤ c.toNat ∧ c.toNat ≤ 57 from by omega), if_pos (by omega)]; omega), rfl⟩
    · by_cases h3 : (97 : Int) ≤ c.toNat
      · by_cases h4 : (c.toNat : Int) ≤ 102
        · go_enter Try.func29, Try.ntmps29
          go_wp2
          go_ret
          exact ⟨ret_int (by unfold worthI Hx.worth; rw [if_neg (show ¬ (48 ≤ c.toNat ∧ c.toNat ≤ 57) from by omega), if_pos (show 97 ≤ c.toNat ∧ c.toNat ≤ 102 from by omega), if_pos (by omega)]; omega), rfl⟩
        · go_enter Try.func29, Try.ntmps29
          go_wp2
          go_ret
          exact ⟨ret_int (by unfold worthI Hx.worth; rw [if_neg (show ¬ (48 ≤ c.toNat ∧ c.toNat ≤ 57) from by omega), if_neg (show ¬ (97 ≤ c.toNat ∧ c.toNat ≤ 102) from by omega), if_neg (by omega)]), rfl⟩
      · go_enter Try.func29, Try.ntmps29
        go_wp2
        go_ret
        exact ⟨ret_int (by unfold worthI Hx.worth; rw [if_neg (show ¬ (48 ≤ c.toNat ∧ c.toNat ≤ 57) from by omega), if_neg (show ¬ (97 ≤ c.toNat ∧ c.toNat ≤ 102) from by omega), if_neg (by omega)]), rfl⟩
  · have h3 : ¬ (97 : Int) ≤ c.toNat := by omega
    go_enter Try.func29, Try.ntmps29
    go_wp2
    go_ret
    exact ⟨ret_int (by unfold worthI Hx.worth; rw [if_neg (show ¬ (48 ≤ c.toNat ∧ c.toNat ≤ 57) from by omega), if_neg (show ¬ (97 ≤ c.toNat ∧ c.toNat ≤ 102) from by omega), if_neg (by omega)]), rfl⟩

theorem digit_yes (c : UInt8) (h : Hx.worth c < 16) (w : World) :
    Calls Try.prog 29 #[.int .u8 c.toNat] w fun e w' => e = .returned (.int .i64 (Hx.worth c : Int)) ∧ w' = w := by
  have := digit_any c w
  rwa [show worthI c = (Hx.worth c : Int) from if_pos h] at this

theorem digit_no (c : UInt8) (h : ¬ Hx.worth c < 16) (w : World) :
    Calls Try.prog 29 #[.int .u8 c.toNat] w fun e w' => e = .returned (.int .i64 (-1)) ∧ w' = w := by
  have := digit_any c w
  rwa [show worthI c = -1 from if_neg h] at this


/-- What it hands back. -/
def unhex02V (l : List UInt8) : Value := match Hx.unhex l with
  | some r => .tuple #[.string ⟨r.toArray⟩, .bool true]
  | none => .tuple #[.string ⟨#[]⟩, .bool false]

theorem unhex02V_some {l r : List UInt8} (h : Hx.unhex l = some r) : unhex02V l = .tuple #[.string ⟨r.toArray⟩, .bool true] := by simp [unhex02V, h]
theorem unhex02V_none {l : List UInt8} (h : Hx.unhex l = none) : unhex02V l = .tuple #[.string ⟨#[]⟩, .bool false] := by simp [unhex02V, h]

set_option maxHeartbeats 3200000 in
set_option maxRecDepth 100000 in
theorem unhex02_any (s : ByteArray) (w : World) (hs : s.size ≤ 4294967296) :
    Calls Try.prog 24 #[.string s] w fun e w' => e = .returned (unhex02V s.data.toList) ∧ Below w.heap.size w w' := by
  obtain ⟨i0, hi, hz0, hz1, hz2⟩ := info_parts info8
  have hlen : s.data.toList.length = s.size := by show s.data.toList.length = s.data.size; simp
  by_cases hodd : s.size % 2 = 1
  · have hne : (((s.size : Int) % 2) != 0) = true := by rw [bne_iff_ne]; omega
    have hnone := unhex02V_none (Hx.unhex_odd _ s.data.toList (Nat.le_refl _) (by rw [hlen]; exact hodd))
    have HN : Hid (unhex02V s.data.toList = .tuple #[.string ⟨#[]⟩, .bool false]) := hnone
    clear hnone
    go_enter Try.func24, Try.ntmps24
    go_wp2
    go_ret2
    exact ⟨by rw [HN.out]; rfl, Below.refl _ _⟩
  · have hne : (((s.size : Int) % 2) != 0) = false := by rw [bne_eq_false_iff_eq]; omega
    have hown0 : w.ownsRow w.heap.size 5 1 (.slice none 0 0) 0 [] := ⟨rfl, .inl ⟨rfl, rfl⟩⟩
    go_enter Try.func24, Try.ntmps24
    go_wp2
    go_loopw [4, 5] (fun v i wr => ∃ (k : Nat) (acc : List UInt8), 2 * k ≤ s.size ∧ acc.length = k ∧ i = .int .i64 (2 * (k : Int)) ∧ wr.ownsRow w.heap.size 5 1 v k (Lib.byteCells acc) ∧ Hx.unhex s.data.toList = (Hx.unhex (s.data.toList.drop (2 * k))).map (acc ++ ·) ∧ Below w.heap.size w wr)
      (fun _ i _ => s.size - (intOf i).toNat)
    case atStart => exact ⟨0, [], Nat.zero_le _, rfl, rfl, hown0, by simp, Below.refl _ _⟩
    case round =>
      obtain ⟨k, acc, hk, hacc, rfl, hown, hun, hnx⟩ := hrel
      by_cases hlt : 2 * k < s.size
      · have hk1 : 2 * (k : Int) < (s.size : Int) := by omega
        have hk2 : 2 * (k : Int) + 1 < (s.size : Int) := by omega
        have hix := idx_str' s (2 * k) (by omega) (2 * (k : Int)) (by omega)
        have hix2 := idx_str' s (2 * k + 1) (by omega) (2 * (k : Int) + 1) (by omega)
        rw [drop_two s k (by omega)] at hun
        obtain ⟨a, hA⟩ : ∃ a, a = s[2 * k]'(by omega) := ⟨_, rfl⟩
        obtain ⟨b, hB⟩ : ∃ b, b = s[2 * k + 1]'(by omega) := ⟨_, rfl⟩
        rw [← hA] at hix hun
        rw [← hB] at hix2 hun
        clear hA hB
        have HU := aside hun
        have HA := aside hacc
        clear hun hacc
        by_cases ha : Hx.worth a < 16
        · by_cases hb : Hx.worth b < 16
          · have hw6 : IntKind.i64.wrap (2 * (k : Int) + 1) = 2 * (k : Int) + 1 := by simp only [IntKind.wrap_i64]; omega
            have DA := aside (fun w => digit_yes a ha w)
            have DB := aside (fun w => digit_yes b hb w)
            go_wp2_with fail
            go_region_held3 (fun _ => True) (trivial) (first | (go_at_call 29; refine (DA.out _).mono ?_; clear DA; rintro e w' ⟨rfl, rfl⟩) | (go_at_call 29; refine (DB.out _).mono ?_; clear DB; rintro e w' ⟨rfl, rfl⟩))
            all_goals
              clear hw6
              go_wp2_with (at_builtin; refine wpList_append_lies _ rfl _ _ _ rfl w.heap.size 5 i0 (.int .u8 0) 1 1 Try.underlying51 hi hz0 hz1 hz2 rfl (by decide) _ _ _ (by rfl) ((hown.alloc _).drew) ⟨wr.heap.size, 0, none⟩ 1 1 [.int .u8 (16 * (Hx.worth a : Int) + (Hx.worth b : Int))] (by rfl) (by rfl) (World.news_of_block (cs := #[.int .u8 (16 * (Hx.worth a : Int) + (Hx.worth b : Int))]) (t := 5) (fr := (0, 0)) (heap_alloc_new wr _)) (by simp [Value.oneCell']) (by omega) (by unfold maxLen; omega) (by omega) (by have := hnx.size; simp; omega) (wr.heap.size + 1) (by simp) ?_; intro g cap w1 hown1 hgrow hat hlt1; refine Hid.out ?_)
              refine aside ?_
              have R := rel_unhex hnx.size hnx hown ⟨hgrow.os, hgrow.tape, hgrow.output, hgrow.size, hgrow.block⟩ HU.out ⟨ha, hb⟩ (by omega) hown1
              clear hown hown1 hgrow hnx hat hix hix2
              go_wp2
              go_roundw
              case rel => exact ⟨k + 1, _, by omega, by rw [List.length_append, HA.out]; rfl, by go_num, R.1, R.2.1, R.2.2⟩
              case measure => simp [intOf]; omega
          · have hw6 : IntKind.i64.wrap (2 * (k : Int) + 1) = 2 * (k : Int) + 1 := by simp only [IntKind.wrap_i64]; omega
            have DA := aside (fun w => digit_yes a ha w)
            have DB := aside (fun w => digit_no b hb w)
            go_wp2_with fail
            go_region_held3 (fun _ => True) (trivial) (first | (go_at_call 29; refine (DA.out _).mono ?_; clear DA; rintro e w' ⟨rfl, rfl⟩) | (go_at_call 29; refine (DB.out _).mono ?_; clear DB; rintro e w' ⟨rfl, rfl⟩))
            all_goals
              clear hw6
              go_wp2
              go_ret2
              exact ⟨by rw [unhex02V_none (HU.out.trans (by rw [Hx.unhex_stop a b _ (fun h => hb h.2)]; rfl))]; rfl, hnx.drew⟩
        · have hw6 : IntKind.i64.wrap (2 * (k : Int) + 1) = 2 * (k : Int) + 1 := by simp only [IntKind.wrap_i64]; omega
          have DA := aside (fun w => digit_no a ha w)
          have DB := aside (fun w => digit_any b w)
          go_wp2_with fail
          go_region_held3 (fun _ => True) (trivial) (first | (go_at_call 29; refine (DA.out _).mono ?_; clear DA; rintro e w' ⟨rfl, rfl⟩) | (go_at_call 29; refine (DB.out _).mono ?_; clear DB; rintro e w' ⟨rfl, rfl⟩))
          all_goals
            clear hw6
            go_wp2
            go_ret2
            exact ⟨by rw [unhex02V_none (HU.out.trans (by rw [Hx.unhex_stop a b _ (fun h => ha h.1)]; rfl))]; rfl, hnx.drew⟩
      · have hkl : 2 * k = s.size := by omega
        have hun' : Hx.unhex s.data.toList = some acc := by rw [hun, List.drop_of_length_le (by rw [hlen]; omega)]; simp [Hx.unhex]
        have HF : Hid (unhex02V s.data.toList = .tuple #[.string ⟨acc.toArray⟩, .bool true]) := unhex02V_some hun'
        have hcv := conv_own wr w.heap.size _ acc (by rw [hacc]; exact hown)
        clear hun hun' hkl hacc
        go_wp2
        go_ret2
        exact ⟨by rw [HF.out]; rfl, hnx⟩

end Go.Proofs.Ytidajlnaehhkkab

/-
  Unhex, the code's: it returns the bytes of the text and no error, or nothing and ErrText; it writes nothing that was there.
-/
import Derived.Test.YtlieljnaecbmdaaDoorIdxByte
import Derived.Test.YtlieljnaecbmdaaDoorBytes1
namespace Go.Proofs.YtlieljnaecbmdaaDoor
open Go.RowKit

/-- What Unhex hands back. -/
def unhexVal (l : List UInt8) : Value := match Hx.unhex l with
  | some r => .tuple #[.string ⟨r.toArray⟩, .int .i64 0]
  | none => .tuple #[.string ⟨#[]⟩, .int .i64 23]

theorem unhexVal_some {l r : List UInt8} (h : Hx.unhex l = some r) : unhexVal l = .tuple #[.string ⟨r.toArray⟩, .int .i64 0] := by simp [unhexVal, h]
theorem unhexVal_none {l : List UInt8} (h : Hx.unhex l = none) : unhexVal l = .tuple #[.string ⟨#[]⟩, .int .i64 23] := by simp [unhexVal, h]

theorem drop_two (s : ByteArray) (k : Nat) (h : 2 * k + 1 < s.size) : s.data.toList.drop (2 * k) = s[2 * k] :: s[2 * k + 1] :: s.data.toList.drop (2 * (k + 1)) := by
  rw [List.drop_eq_getElem_cons (show 2 * k < s.data.toList.length from by simpa using (show 2 * k < s.data.size from Nat.lt_of_succ_lt h)),
    List.drop_eq_getElem_cons (show 2 * k + 1 < s.data.toList.length from by simpa using h)]
  rfl

theorem rel_unhex {B : Nat} {w wr w1 : World} {o : Obj} {u v : Value} {l r acc : List UInt8} {k : Nat} {a b : UInt8} {z : Int} (hB : B ≤ wr.heap.size) (hnx : Below B w wr)
    (hown : wr.ownsRow B 5 1 u k (Lib.byteCells acc)) (hgrow : (wr.alloc o).grownBy w1 u.ownBlock)
    (hl : Hx.unhex l = (Hx.unhex (a :: b :: r)).map (acc ++ ·)) (ha : Hx.worth a < 16 ∧ Hx.worth b < 16) (hz : z = ((16 * Hx.worth a + Hx.worth b : Nat) : Int))
    (hown1 : w1.ownsRow B 5 1 v (k + 1) (Lib.byteCells acc ++ [.int .u8 z])) :
    w1.ownsRow B 5 1 v (k + 1) (Lib.byteCells (acc ++ [UInt8.ofNat (16 * Hx.worth a + Hx.worth b)])) ∧ Hx.unhex l = (Hx.unhex r).map ((acc ++ [UInt8.ofNat (16 * Hx.worth a + Hx.worth b)]) ++ ·) ∧ Below B w w1 := by
  refine ⟨?_, hl.trans (Hx.unhex_step a b r acc ha), (hnx.alloc hB o).grown hgrow (by simp; omega) (fun j hj => (hown.lt j hj).1)⟩
  rw [Lib.byteCells_append]
  have e : Lib.byteCells [UInt8.ofNat (16 * Hx.worth a + Hx.worth b)] = [.int .u8 z] := by
    subst hz
    simp only [Lib.byteCells, List.map_cons, List.map_nil, UInt8.toNat_ofNat', Nat.mod_eq_of_lt (show 16 * Hx.worth a + Hx.worth b < 2 ^ 8 from by omega)]
  rw [e]
  exact hown1

set_option maxHeartbeats 3200000 in
set_option maxRecDepth 100000 in
theorem unhex_any (s : ByteArray) (w : World) (hs : s.size ≤ 4294967296) :
    Calls Tryd.prog 31 #[.string s] w fun e w' => e = .returned (unhexVal s.data.toList) ∧ Below w.heap.size w w' := by
  obtain ⟨i0, hi, hz0, hz1, hz2⟩ := info_parts info8
  have hlen : s.data.toList.length = s.size := by show s.data.toList.length = s.data.size; simp
  by_cases hodd : s.size % 2 = 1
  · have hne : (((s.size : Int) % 2) != 0) = true := by rw [bne_iff_ne]; omega
    have hnone := unhexVal_none (Hx.unhex_odd _ s.data.toList (Nat.le_refl _) (by rw [hlen]; exact hodd))
    have HN : Hid (unhexVal s.data.toList = .tuple #[.string ⟨#[]⟩, .int .i64 23]) := hnone
    clear hnone
    go_enter Tryd.func31, Tryd.ntmps31
    go_wp2
    go_ret2
    exact ⟨by rw [HN.out]; rfl, Below.refl _ _⟩
  · have hne : (((s.size : Int) % 2) != 0) = false := by rw [bne_eq_false_iff_eq]; omega
    go_enter Tryd.func31, Tryd.ntmps31
    go_wp2_with (at_make; refine wpList_make_own _ rfl _ _ 59 rfl w.heap.size 5 i0 (.int .u8 0) 1 Tryd.underlying59 hi hz0 hz1 _ _ _ (s.size / 2) rfl rfl (by omega) ?b2 ?b3 (Nat.le_refl _) ?_)
    case b2 => rw [hz2]; omega
    case b3 => unfold maxLen; omega
    intro w0 hown0 hgrow0
    go_wp2
    go_loopw [4, 5] (fun v i wr => ∃ (k : Nat) (acc : List UInt8), 2 * k ≤ s.size ∧ acc.length = k ∧ i = .int .i64 (2 * (k : Int)) ∧ wr.ownsRow w.heap.size 5 1 v k (Lib.byteCells acc) ∧ Hx.unhex s.data.toList = (Hx.unhex (s.data.toList.drop (2 * k))).map (acc ++ ·) ∧ Below w.heap.size w wr)
      (fun _ i _ => s.size - (intOf i).toNat)
    case atStart => exact ⟨0, [], Nat.zero_le _, rfl, rfl, hown0, by simp, (Below.refl _ _).grown hgrow0 (Nat.le_refl _) (fun k h => by cases h)⟩
    case round =>
      obtain ⟨k, acc, hk, hacc, rfl, hown, hun, hnx⟩ := hrel
      by_cases hlt : 2 * k < s.size
      · have hk1 : 2 * (k : Int) < (s.size : Int) := by omega
        have hk2 : 2 * (k : Int) + 1 < (s.size : Int) := by omega
        have hix := idx_str' s (2 * k) (by omega) (2 * (k : Int)) (by omega)
        have hix2 := idx_str' s (2 * k + 1) (by omega) (2 * (k : Int) + 1) (by omega)
        rw [drop_two s k (by omega)] at hun
        obtain ⟨a, hA⟩ : ∃ a, a = s[2 * k]'(by omega) := ⟨_, rfl⟩
        obtain ⟨b, hB⟩ : ∃ b, b = s[2 * k + 1]'(by omega) := ⟨_, rfl⟩
        rw [← hA] at hix hun
        rw [← hB] at hix2 hun
        clear hA hB
        have HU := aside hun
        have HA := aside hacc
        clear hun hacc
        by_cases ha : Hx.worth a < 16
        · by_cases hb : Hx.worth b < 16
          · go_wp2_with fail
            refine (indexByte_yes a ha _).mono ?_
            rintro e w' ⟨rfl, rfl⟩
            go_wp2_with fail
            refine (indexByte_yes b hb _).mono ?_
            rintro e w' ⟨rfl, rfl⟩
            go_wp2_with (at_builtin; refine wpList_append_lies _ rfl _ _ _ rfl w.heap.size 5 i0 (.int .u8 0) 1 1 Tryd.underlying59 hi hz0 hz1 hz2 rfl (by decide) _ _ _ (by rfl) (hown.alloc _) ⟨w'.heap.size, 0, none⟩ 1 1 [.int .u8 ((Hx.worth a : Int) * 16 + (Hx.worth b : Int))] (by rfl) (by rfl) (World.news_of_block (cs := #[.int .u8 ((Hx.worth a : Int) * 16 + (Hx.worth b : Int))]) (t := 5) (fr := (0, 0)) (heap_alloc_new w' _)) (by simp [Value.oneCell']) (by omega) (by unfold maxLen; omega) (by omega) (by have := hnx.size; simp; omega) (w'.heap.size + 1) (by simp) ?_; intro g cap w1 hown1 hgrow hat hlt1; refine Hid.out ?_)
            refine aside ?_
            have R := rel_unhex hnx.size hnx hown hgrow HU.out ⟨ha, hb⟩ (by omega) hown1
            clear hown hown1 hgrow hnx hat hix hix2
            go_wp2
            go_roundw
            case rel => exact ⟨k + 1, _, by omega, by rw [List.length_append, HA.out]; rfl, by go_num, R.1, R.2.1, R.2.2⟩
            case measure => simp [intOf]; omega
          · go_wp2_with fail
            refine (indexByte_yes a ha _).mono ?_
            rintro e w' ⟨rfl, rfl⟩
            go_wp2_with fail
            refine (indexByte_no b hb _).mono ?_
            rintro e w' ⟨rfl, rfl⟩
            go_wp2
            go_ret2
            exact ⟨by rw [unhexVal_none (HU.out.trans (by rw [Hx.unhex_stop a b _ (fun h => hb h.2)]; rfl))]; rfl, hnx⟩
        · go_wp2_with fail
          refine (indexByte_no a ha _).mono ?_
          rintro e w' ⟨rfl, rfl⟩
          go_wp2_with fail
          refine (indexByte_any b _).mono ?_
          rintro e w' ⟨rfl, rfl⟩
          go_wp2
          go_ret2
          exact ⟨by rw [unhexVal_none (HU.out.trans (by rw [Hx.unhex_stop a b _ (fun h => ha h.1)]; rfl))]; rfl, hnx⟩
      · have hkl : 2 * k = s.size := by omega
        have hun' : Hx.unhex s.data.toList = some acc := by rw [hun, List.drop_of_length_le (by rw [hlen]; omega)]; simp [Hx.unhex]
        have HF : Hid (unhexVal s.data.toList = .tuple #[.string ⟨acc.toArray⟩, .int .i64 0]) := unhexVal_some hun'
        have hcv := conv_own wr w.heap.size _ acc (by rw [hacc]; exact hown)
        clear hun hun' hkl hacc
        go_wp2
        go_ret2
        exact ⟨by rw [HF.out]; rfl, hnx⟩

end Go.Proofs.YtlieljnaecbmdaaDoor

/-
  A range's text read: what Parse comes to as a plain function; a range's text is read as that range, and what is read is written so.
-/
import Derived.Test.YtidajlnaehhkkabSParse
import Derived.Test.YtidajlnaehhkkabSAlg
import Derived.Lib.IndexLaws
namespace Go.Proofs.Ytidajlnaehhkkab
open Go.RowKit

/-- The range that a text says if its first two dots stand at place i. -/
def readAt (l : List UInt8) (i : Nat) : Option Rg :=
  match Hx.unhex (l.take i), Hx.unhex (bif l.drop (i + 2) == [42] then [] else l.drop (i + 2)) with
  | some lo, some hi => if Rg.may ⟨⟨lo.toArray⟩, ⟨hi.toArray⟩, l.drop (i + 2) == [42]⟩ then some ⟨⟨lo.toArray⟩, ⟨hi.toArray⟩, l.drop (i + 2) == [42]⟩ else none
  | _, _ => none

/-- The range that a text says. -/
def parseL (l : List UInt8) : Option Rg := if 0 ≤ Lib.index l [46, 46] then readAt l (Lib.index l [46, 46]).toNat else none

/-- What is handed back. -/
def parseV : Option Rg → Value
  | some r => .tuple #[.agg #[.string r.lo, .string r.hi, .bool r.op], .int .i64 0]
  | none => .tuple #[.agg #[.string ⟨#[]⟩, .string ⟨#[]⟩, .bool false], .int .i64 23]

theorem unhex_two (l : List UInt8) : ∃ (lo : ByteArray) (e : Int), unhexVal l = .tuple #[.string lo, .int .i64 e] ∧ ((Hx.unhex l = some lo.data.toList ∧ e = 0) ∨ (Hx.unhex l = none ∧ e = 23)) := by
  cases h : Hx.unhex l with
  | some r => exact ⟨⟨r.toArray⟩, 0, unhexVal_some h, .inl ⟨rfl, rfl⟩⟩
  | none => exact ⟨⟨#[]⟩, 23, unhexVal_none h, .inr ⟨rfl, rfl⟩⟩

theorem size_list (s : ByteArray) : s.data.toList.length = s.size := by show s.data.toList.length = s.data.size; simp

theorem parse_any (s : ByteArray) (w : World) (hw : MaxAt w) (hs : s.size < 4294967281) :
    Calls Try.prog 9 #[.string s] w fun e w' => e = .returned (parseV (parseL s.data.toList)) ∧ Below w.heap.size w w' := by
  have hlen := size_list s
  by_cases hix : 0 ≤ Lib.index s.data.toList [46, 46]
  · obtain ⟨i, hi⟩ : ∃ i : Nat, (Lib.index s.data.toList [46, 46]).toNat = i := ⟨_, rfl⟩
    have hcut : Lib.cut s.data.toList [46, 46] = (s.data.toList.take i, s.data.toList.drop (i + 2), true) := by
      unfold Lib.cut; rw [if_pos hix, hi]; rfl
    obtain ⟨lo, e1, g1, k1⟩ := unhex_two (s.data.toList.take i)
    obtain ⟨hi', e2, g2, k2⟩ := unhex_two (bif s.data.toList.drop (i + 2) == [42] then [] else s.data.toList.drop (i + 2))
    have een : (⟨(s.data.toList.drop (i + 2)).toArray⟩ : ByteArray).toList = s.data.toList.drop (i + 2) := ByteArray.toList_mk _
    have h := parse_core s ⟨(s.data.toList.take i).toArray⟩ ⟨(s.data.toList.drop (i + 2)).toArray⟩ ⟨(bif s.data.toList.drop (i + 2) == [42] then [] else s.data.toList.drop (i + 2)).toArray⟩ lo hi' true (s.data.toList.drop (i + 2) == [42]) (Rg.may ⟨lo, hi', s.data.toList.drop (i + 2) == [42]⟩) e1 e2 w hw hs
      (by rw [hcut]) (by rw [hcut]) (by rw [hcut]) (by rw [een]) (by cases (s.data.toList.drop (i + 2) == [42]) <;> rfl) g1 g2
      (by show (s.data.toList.take i).toArray.size ≤ _; simp only [List.size_toArray, List.length_take]; omega)
      (by show (bif s.data.toList.drop (i + 2) == [42] then [] else s.data.toList.drop (i + 2)).toArray.size ≤ _
          cases (s.data.toList.drop (i + 2) == [42])
          · show (s.data.toList.drop (i + 2)).toArray.size ≤ _
            simp only [List.size_toArray, List.length_drop]; omega
          · exact Nat.zero_le _) rfl (by rcases k1 with k | k <;> omega) (by rcases k2 with k | k <;> omega)
    have hv : parseV (parseL s.data.toList) = (bif true && e1 == 0 && e2 == 0 && Rg.may ⟨lo, hi', s.data.toList.drop (i + 2) == [42]⟩ then .tuple #[.agg #[.string lo, .string hi', .bool (s.data.toList.drop (i + 2) == [42])], .int .i64 0] else noneV) := by
      unfold parseL readAt
      rw [if_pos hix, hi]
      rcases k1 with ⟨k1, rfl⟩ | ⟨k1, rfl⟩
      · rcases k2 with ⟨k2, rfl⟩ | ⟨k2, rfl⟩
        · rw [k1, k2]
          dsimp only
          cases hm : Rg.may ⟨lo, hi', s.data.toList.drop (i + 2) == [42]⟩
          · rfl
          · rfl
        · rw [k1, k2]; rfl
      · rw [k1]; rfl
    rw [hv]; exact h
  · have hcut : Lib.cut s.data.toList [46, 46] = (s.data.toList, [], false) := by unfold Lib.cut; rw [if_neg hix]
    obtain ⟨lo, e1, g1, k1⟩ := unhex_two s.data.toList
    have h := parse_core s s ⟨#[]⟩ ⟨#[]⟩ lo ⟨#[]⟩ false false (Rg.may ⟨lo, ⟨#[]⟩, false⟩) e1 0 w hw hs (by rw [hcut]) (by rw [hcut]) (by rw [hcut])
      (by rw [show (⟨#[]⟩ : ByteArray).toList = [] from ByteArray.toList_mk []]; rfl) rfl g1 rfl (by omega) (Nat.zero_le _) rfl (by rcases k1 with k | k <;> omega) (.inl rfl)
    rw [show parseV (parseL s.data.toList) = noneV from by unfold parseL; rw [if_neg hix]; rfl]
    exact h

/-- No digit is a dot. -/
theorem hex_no_dot : ∀ (l : List UInt8) (j : Nat), (Hx.hex l)[j]? ≠ some 46
  | [], j => by simp [Hx.hex]
  | c :: l, 0 => by
    have h1 := Hx.worth_dig (c.toNat / 16) (by have := c.toNat_lt; omega)
    intro h
    have e : Hx.digs.getD (c.toNat / 16) 0 = 46 := by simpa [Hx.hex, Hx.one] using h
    rw [e] at h1
    have : Hx.worth 46 = 16 := by decide
    have := c.toNat_lt
    omega
  | c :: l, 1 => by
    have h1 := Hx.worth_dig (c.toNat % 16) (by omega)
    intro h
    have e : Hx.digs.getD (c.toNat % 16) 0 = 46 := by simpa [Hx.hex, Hx.one] using h
    rw [e] at h1
    have : Hx.worth 46 = 16 := by decide
    omega
  | c :: l, j + 2 => by
    intro h
    exact hex_no_dot l j (by simpa [Hx.hex, Hx.one] using h)

theorem occ_first {s : List UInt8} {j : Nat} (h : Lib.occAt s [46, 46] j = true) : s[j]? = some 46 := by
  unfold Lib.occAt at h
  cases e : s.drop j with
  | nil => rw [e] at h; simp at h
  | cons a t =>
    rw [e] at h
    simp only [List.isPrefixOf, Bool.and_eq_true, beq_iff_eq] at h
    have : (s.drop j)[0]? = some a := by rw [e]; rfl
    rw [List.getElem?_drop] at this
    rw [← h.1] at this
    simpa using this

theorem index_txt (x y : List UInt8) (h : ∀ j : Nat, x[j]? ≠ some 46) : Lib.index (x ++ [46, 46] ++ y) [46, 46] = x.length := by
  apply Lib.index_hit
  · intro j hj
    cases e : Lib.occAt (x ++ [46, 46] ++ y) [46, 46] j
    · rfl
    · have := occ_first e
      rw [List.append_assoc, List.getElem?_append_left hj] at this
      exact absurd this (h j)
  · simp
  · unfold Lib.occAt
    rw [List.append_assoc, List.drop_left]
    simp [List.isPrefixOf]

theorem star_hex (l : List UInt8) : (Hx.hex l == [42]) = false := by
  have := Hx.hex_length l
  cases e : (Hx.hex l == [42])
  · rfl
  · rw [beq_iff_eq] at e
    rw [e] at this
    simp at this
    omega

/-- A range's text is read as that range. -/
theorem parse_txt {r : Rg} (h : r.may = true) : parseL (txtL r) = some r := by
  have hix : Lib.index (txtL r) [46, 46] = (Hx.hex r.lo.data.toList).length := index_txt _ _ (hex_no_dot _)
  have h0 : 0 ≤ Lib.index (txtL r) [46, 46] := by rw [hix]; omega
  unfold parseL
  rw [if_pos h0, hix]
  have e1 : (txtL r).take (Hx.hex r.lo.data.toList).length = Hx.hex r.lo.data.toList := by
    unfold txtL; rw [List.append_assoc]; exact List.take_left
  have e2 : (txtL r).drop ((Hx.hex r.lo.data.toList).length + 2) = bif r.op then [42] else Hx.hex r.hi.data.toList := by
    unfold txtL
    rw [show (Hx.hex r.lo.data.toList).length + 2 = (Hx.hex r.lo.data.toList ++ [46, 46]).length from by simp]
    exact List.drop_left
  unfold readAt
  simp only [Int.toNat_natCast]
  rw [e1, e2, Hx.unhex_hex]
  cases ho : r.op
  · simp only [cond_false]
    rw [star_hex]
    simp only [cond_false]
    rw [Hx.unhex_hex]
    dsimp only
    have e3 : (⟨⟨r.lo.data.toList.toArray⟩, ⟨r.hi.data.toList.toArray⟩, false⟩ : Rg) = r := by cases r; cases ho; rfl
    rw [e3, if_pos h]
  · have e4 : (([42] : List UInt8) == [42]) = true := by decide
    simp only [cond_true, e4]
    have e5 : Hx.unhex [] = some [] := rfl
    rw [e5]
    dsimp only
    have e3 : (⟨⟨r.lo.data.toList.toArray⟩, ⟨([] : List UInt8).toArray⟩, true⟩ : Rg) = r := by
      have := empty_str h ho
      cases r; cases ho
      simp only at this
      rw [this]
    rw [e3, if_pos h]

/-- What is read of a text is written so. -/
theorem txt_parse {l : List UInt8} {r : Rg} (h : parseL l = some r) : r.may = true ∧ txtL r = l := by
  unfold parseL at h
  by_cases h0 : 0 ≤ Lib.index l [46, 46]
  · rw [if_pos h0] at h
    obtain ⟨i, hi⟩ : ∃ i : Nat, (Lib.index l [46, 46]).toNat = i := ⟨_, rfl⟩
    rw [hi] at h
    have hix : Lib.index l [46, 46] = i := by omega
    have hocc : Lib.occAt l [46, 46] i = true := by
      rcases Lib.index_spec l [46, 46] with ⟨h1, -⟩ | ⟨i', h1, -, h2, -⟩
      · omega
      · rw [show i = i' from by omega]; exact h2
    unfold readAt at h
    cases e1 : Hx.unhex (l.take i) with
    | none => rw [e1] at h; simp at h
    | some lo =>
      cases e2 : Hx.unhex (bif l.drop (i + 2) == [42] then [] else l.drop (i + 2)) with
      | none => rw [e1, e2] at h; simp at h
      | some hi' =>
        rw [e1, e2] at h
        dsimp only at h
        split at h
        · rename_i hm
          have hr := Option.some.inj h
          subst hr
          refine ⟨hm, ?_⟩
          have x1 := Hx.hex_unhex _ _ _ (Nat.le_refl _) e1
          have x2 := Hx.hex_unhex _ _ _ (Nat.le_refl _) e2
          have hl : l = l.take i ++ [46, 46] ++ l.drop (i + 2) := by
            unfold Lib.occAt at hocc
            obtain ⟨t, ht⟩ := List.isPrefixOf_iff_prefix.1 hocc
            have : l.drop (i + 2) = t := by
              rw [← List.drop_drop, ← ht]; rfl
            rw [this, List.append_assoc, ht, List.take_append_drop]
          unfold txtL
          show Hx.hex lo ++ [46, 46] ++ (bif (l.drop (i + 2) == [42]) then [42] else Hx.hex hi') = l
          rw [x1, x2]
          cases e3 : (l.drop (i + 2) == [42])
          · simp only [cond_false]
            exact hl.symm
          · simp only [cond_true]
            rw [beq_iff_eq] at e3
            rw [← e3]; exact hl.symm
        · cases h
  · rw [if_neg h0] at h; cases h

end Go.Proofs.Ytidajlnaehhkkab

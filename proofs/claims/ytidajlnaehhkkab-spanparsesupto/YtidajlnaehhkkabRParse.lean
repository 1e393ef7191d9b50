/-
  The document's own Parse: it returns what the plain function gives, and writes nothing that was there.
-/
import Derived.Test.YtidajlnaehhkkabSText
import Derived.Test.YtidajlnaehhkkabSSplit
import Derived.Test.YtidajlnaehhkkabRUnhex
import Derived.Test.YtidajlnaehhkkabSShown
namespace Go.Proofs.Ytidajlnaehhkkab
open Go.RowKit

theorem set_box1 {W : World} {k : Nat} {a b c : Value} {t : TypeId} (h : W.heap[k]? = some (.cells #[a, b, c] t (0, 0))) (v : Value) : (W.setCell ⟨k, 1, none⟩ v).heap[k]? = some (.cells #[a, v, c] t (0, 0)) := by
  simp only [World.setCell]
  rw [Array.getElem?_modify]
  simp [h]
theorem set_box2 {W : World} {k : Nat} {a b c : Value} {t : TypeId} (h : W.heap[k]? = some (.cells #[a, b, c] t (0, 0))) (v : Value) : (W.setCell ⟨k, 2, none⟩ v).heap[k]? = some (.cells #[a, b, v] t (0, 0)) := by
  simp only [World.setCell]
  rw [Array.getElem?_modify]
  simp [h]
theorem set_far {W : World} {j k i : Nat} {o : Obj} (h : W.heap[j]? = some o) (hne : j ≠ k) (v : Value) : (W.setCell ⟨k, i, none⟩ v).heap[j]? = some o :=
  (Below.heap_setCell W ⟨k, i, none⟩ v j hne).trans h

theorem unhex02_two (l : List UInt8) : ∃ (lo : ByteArray) (ok : Bool), unhex02V l = .tuple #[.string lo, .bool ok] ∧ ((Hx.unhex l = some lo.data.toList ∧ ok = true) ∨ (Hx.unhex l = none ∧ ok = false)) := by
  cases h : Hx.unhex l with
  | some r => exact ⟨⟨r.toArray⟩, true, unhex02V_some h, .inl ⟨rfl, rfl⟩⟩
  | none => exact ⟨⟨#[]⟩, false, unhex02V_none h, .inr ⟨rfl, rfl⟩⟩

theorem unhex02_at {s lo : ByteArray} {ok : Bool} (h : unhex02V s.data.toList = .tuple #[.string lo, .bool ok]) (hs : s.size ≤ 4294967296) (w : World) :
    Calls Try.prog 24 #[.string s] w fun x w' => x = .returned (.tuple #[.string lo, .bool ok]) ∧ Below w.heap.size w w' := by
  rw [← h]; exact unhex02_any s w hs

/-- Too long a part says no key. -/
theorem long_part {l : List UInt8} {c : List UInt8} (h : Hx.unhex l = some c) (hl : 33 ≤ l.length) : 16 < c.length := by
  have := Hx.unhex_length _ _ _ (Nat.le_refl _) h
  omega

theorem may_long_lo {lo hi : List UInt8} {op : Bool} (h : 16 < lo.length) : Rg.may ⟨⟨lo.toArray⟩, ⟨hi.toArray⟩, op⟩ = false := by
  cases e : Rg.may ⟨⟨lo.toArray⟩, ⟨hi.toArray⟩, op⟩
  · rfl
  · have := (may_small e).1
    have e2 : (⟨lo.toArray⟩ : ByteArray).size = lo.length := by show lo.toArray.size = _; simp
    simp only [e2] at this
    omega
theorem may_long_hi {lo hi : List UInt8} {op : Bool} (h : 16 < hi.length) : Rg.may ⟨⟨lo.toArray⟩, ⟨hi.toArray⟩, op⟩ = false := by
  cases e : Rg.may ⟨⟨lo.toArray⟩, ⟨hi.toArray⟩, op⟩
  · rfl
  · have := (may_small e).2
    have e2 : (⟨hi.toArray⟩ : ByteArray).size = hi.length := by show hi.toArray.size = _; simp
    simp only [e2] at this
    omega

/-- Where no dots stand at the first places, the text says no range. -/
theorem parse_past {l : List UInt8} {k : Nat} (h : Lib.NoOcc l [46, 46] k) (hk : 33 ≤ k ∨ l.length < k + 2) : parseL l = none := by
  unfold parseL
  by_cases h0 : 0 ≤ Lib.index l [46, 46]
  · rw [if_pos h0]
    rcases Lib.index_spec l [46, 46] with ⟨h1, -⟩ | ⟨i, h1, h2, h3, h4⟩
    · omega
    · have hki : k ≤ i := by
        apply Classical.byContradiction
        intro hlt
        have := h i (by omega)
        rw [h3] at this; cases this
      have hil : i + 2 ≤ l.length := by
        have := Lib.index_room l [46, 46] (by omega)
        simp at this
        omega
      have hi33 : 33 ≤ i := by omega
      rw [h1]
      unfold readAt
      simp only [Int.toNat_natCast]
      cases e1 : Hx.unhex (l.take i) with
      | none => rfl
      | some lo =>
        have := long_part e1 (by simp only [List.length_take]; omega)
        cases Hx.unhex (bif l.drop (i + 2) == [42] then [] else l.drop (i + 2)) with
        | none => rfl
        | some hi =>
          dsimp only
          rw [may_long_lo this]
          rfl
  · rw [if_neg h0]

theorem parse_hit {l : List UInt8} {k : Nat} (h : Lib.NoOcc l [46, 46] k) (hk : k ≤ l.length) (ho : Lib.occAt l [46, 46] k = true) : parseL l = readAt l k := by
  have := Lib.index_hit h hk ho
  unfold parseL
  rw [this, if_pos (by omega)]
  simp only [Int.toNat_natCast]

theorem occ_two (l : List UInt8) (k : Nat) : ((l.drop k).take 2 == [46, 46]) = Lib.occAt l [46, 46] k := by
  unfold Lib.occAt
  match l.drop k with
  | [] => rfl
  | [a] => simp [List.isPrefixOf]
  | a :: b :: t =>
    rw [Bool.eq_iff_iff]
    simp [List.isPrefixOf]
    constructor
    · rintro ⟨rfl, rfl⟩; exact ⟨rfl, rfl⟩
    · rintro ⟨rfl, rfl⟩; exact ⟨rfl, rfl⟩

/-- What the document's way comes to at the place of the dots. -/
theorem read_eq {l : List UInt8} {k : Nat} {lo hi : ByteArray} {ok is : Bool} (h1 : (Hx.unhex (l.take k) = some lo.data.toList ∧ ok = true) ∨ (Hx.unhex (l.take k) = none ∧ ok = false))
    (h2 : (Hx.unhex (bif l.drop (k + 2) == [42] then [] else l.drop (k + 2)) = some hi.data.toList ∧ is = true) ∨ (Hx.unhex (bif l.drop (k + 2) == [42] then [] else l.drop (k + 2)) = none ∧ is = false)) :
    readAt l k = if ok && is && Rg.may ⟨lo, hi, l.drop (k + 2) == [42]⟩ then some ⟨lo, hi, l.drop (k + 2) == [42]⟩ else none := by
  unfold readAt
  rcases h1 with ⟨e1, rfl⟩ | ⟨e1, rfl⟩
  · rcases h2 with ⟨e2, rfl⟩ | ⟨e2, rfl⟩
    · rw [e1, e2]; rfl
    · rw [e1, e2]; rfl
  · rw [e1]; rfl

theorem read_long {l : List UInt8} {k : Nat} (h : (l.drop (k + 2) == [42]) = false) (hl : 66 < l.length) (hk : k ≤ 32) : readAt l k = none := by
  unfold readAt
  rw [h]
  simp only [cond_false]
  cases Hx.unhex (l.take k) with
  | none => rfl
  | some lo =>
    cases e : Hx.unhex (l.drop (k + 2)) with
    | none => rfl
    | some hi =>
      have := long_part e (by simp only [List.length_drop]; omega)
      dsimp only
      rw [may_long_hi this]
      rfl

set_option maxRecDepth 100000 in
set_option maxHeartbeats 6400000 in
theorem parse02_any (s : ByteArray) (w : World) (hs : s.size < 4294967281) :
    Calls Try.prog 10 #[.string s] w fun e w' => e = .returned (parseV (parseL s.data.toList)) ∧ Below w.heap.size w w' := by
  obtain ⟨V, hV⟩ : ∃ V, V = parseV (parseL s.data.toList) := ⟨_, rfl⟩
  rw [← hV]
  have HV := aside hV
  have hlen := size_list s
  clear hV
  go_enter Try.func10, Try.ntmps10
  go_wp2
  go_loopw [4] (fun i wr => ∃ k : Nat, k ≤ 33 ∧ i = .int .i64 (k : Int) ∧ Hid (Lib.NoOcc s.data.toList [46, 46] k) ∧ wr = w.alloc (.cells #[.string ⟨#[]⟩, .string ⟨#[]⟩, .bool false] 23))
    (fun i _ => 33 - (intOf i).toNat)
  case atStart => exact ⟨0, by omega, rfl, aside (Lib.NoOcc.zero _ _), rfl⟩
  case round =>
    obtain ⟨k, hk, rfl, HN, rfl⟩ := hrel
    by_cases hin : (k : Int) + 2 ≤ (s.size : Int)
    · by_cases hk32 : (k : Int) ≤ 32
      · obtain ⟨t2, ht2⟩ : ∃ t : ByteArray, t = s.extract k (k + 2) := ⟨_, rfl⟩
        obtain ⟨st, hst⟩ : ∃ t : ByteArray, t = s.extract 0 k := ⟨_, rfl⟩
        obtain ⟨en, hen⟩ : ∃ t : ByteArray, t = s.extract (k + 2) s.size := ⟨_, rfl⟩
        have hsl1 : ∀ wx, (Instr.slice 9 (.string s) (some (.int .i64 (k : Int))) (some (.int .i64 ((k : Int) + 2))) none).run Try.prog wx = .ok (.string t2) wx := fun wx => by
          rw [run_slice_string wx 9 s .i64 .i64 _ _ Try.underlying9 (by omega) (by omega) (by omega), ht2]; rfl
        have hsl2 : ∀ wx, (Instr.slice 9 (.string s) none (some (.int .i64 (k : Int))) none).run Try.prog wx = .ok (.string st) wx := fun wx => by
          rw [run_slice_string_to_if wx 9 s .i64 _ Try.underlying9, if_pos ⟨by omega, by omega⟩, hst]; rfl
        have hsl3 : ∀ wx, (Instr.slice 9 (.string s) (some (.int .i64 ((k : Int) + 2))) none none).run Try.prog wx = .ok (.string en) wx := fun wx => by
          rw [run_slice_string_from_if wx 9 s .i64 _ Try.underlying9, if_pos ⟨by omega, by omega⟩, hen]; rfl
        have hq : (t2.toList == [46, 46]) = Lib.occAt s.data.toList [46, 46] k := by
          rw [← occ_two, ht2, ByteArray.toList_eq, Lib.extract_eq]
          simp
        have dst : st.data.toList = s.data.toList.take k := by rw [hst, Lib.extract_eq]; simp
        have den : en.data.toList = s.data.toList.drop (k + 2) := by
          rw [hen, Lib.extract_eq]
          simp only
          rw [List.take_of_length_le (by rw [List.length_drop]; omega)]
        have hop : (en.toList == [42]) = (s.data.toList.drop (k + 2) == [42]) := by rw [ByteArray.toList_eq, den]
        clear ht2 hst hen
        have hw2 : IntKind.i64.wrap ((k : Int) + 2) = (k : Int) + 2 := by simp only [IntKind.wrap_i64]; omega
        have hk0 : (0 : Int) ≤ (k : Int) := by omega
        cases ho : Lib.occAt s.data.toList [46, 46] k
        · rw [ho] at hq
          have HN2 := aside (HN.out.succ ho)
          clear ho dst den hop hsl2 hsl3 HN
          go_wp2
          go_roundw
          case rel => exact ⟨k + 1, by omega, by go_num, HN2, trivial⟩
          case measure => simp [intOf]; omega
        · rw [ho] at hq
          have HR := aside (parse_hit HN.out (by rw [hlen]; omega) ho)
          obtain ⟨lo, ok, g1, k1⟩ := unhex02_two (s.data.toList.take k)
          rw [← dst] at g1
          have U1 := aside (fun w => unhex02_at g1 (by have := size_list st; rw [dst, List.length_take, hlen] at this; omega) w)
          have K1 := aside k1
          have DEN := aside den
          have kR0 := keepA (p := .cells #[.string ⟨#[]⟩, .string ⟨#[]⟩, .bool false] 23) (heap_new w (.cells #[.string ⟨#[]⟩, .string ⟨#[]⟩, .bool false] 23))
          have kr0 := heap_new (w.alloc (.cells #[.string ⟨#[]⟩, .string ⟨#[]⟩, .bool false] 23)) (.cells #[.string ⟨#[]⟩, .string ⟨#[]⟩, .bool false] 23)
          rw [World.size_alloc] at kr0
          have KR0 := aside kR0; have Kr0 := aside kr0
          have b0 := bthen (bnew w (.cells #[.string ⟨#[]⟩, .string ⟨#[]⟩, .bool false] 23)) (bnew _ (.cells #[.string ⟨#[]⟩, .string ⟨#[]⟩, .bool false] 23))
          clear ho HN k1 g1 dst den kR0 kr0
          cases hop2 : (s.data.toList.drop (k + 2) == [42])
          · rw [hop2] at hop
            have HO := aside hop2
            clear hop2
            by_cases h66 : (s.size : Int) ≤ 66
            · obtain ⟨hi, is, g2, k2⟩ := unhex02_two (s.data.toList.drop (k + 2))
              have hv : Hid (V = parseV (if ok && is && Rg.may ⟨lo, hi, false⟩ then some ⟨lo, hi, false⟩ else none)) := by
                show V = _
                rw [HV.out, HR.out, read_eq K1.out (hi := hi) (is := is) (by rw [HO.out]; exact k2), HO.out]
              rw [← DEN.out] at g2
              have U2 := aside (fun w => unhex02_at g2 (by have := size_list en; rw [DEN.out, List.length_drop, hlen] at this; omega) w)
              clear HV g2 k2 HR K1 DEN HO
              have HV := hv
              clear hv
              go_wp2_with fail
              refine (U1.out _).mono ?_
              rintro e w2 ⟨rfl, b2⟩
              have kR2 := keep KR0.out b2; have kr2 := keep Kr0.out b2
              have b02 := bthen b0 b2
              have KR2 := aside kR2; have Kr2 := aside kr2
              clear b2 b0 KR0 Kr0 kR2 kr2 U1
              go_wp2_with fail
              refine (U2.out _).mono ?_
              rintro e w3 ⟨rfl, b3⟩
              have kR3 := keep KR2.out b3; have kr3 := keep Kr2.out b3
              have b03 := bthen b02 b3
              have KR3 := aside kR3; have Kr3 := aside kr3
              obtain ⟨⟨r0, r1, r2⟩, r3, r4, r5⟩ := box_out kR3
              obtain ⟨⟨s0, s1, s2⟩, s3, s4, s5⟩ := box_out kr3
              clear b3 b02 KR2 Kr2 kR3 kr3 U2
              cases ok
              · go_wp2
                refine bodyPost_ret (v := .tuple #[.agg #[.string ⟨#[]⟩, .string ⟨#[]⟩, .bool false], .int .i64 23]) (by simp [results, Try.results10, go_sem, r0, r1, r2]) rfl ⟨ret_val (by rw [HV.out]; rfl), ?_⟩
                exact (((((b03.setCell (p := ⟨w.heap.size + 1, 0, none⟩) (by simp) _).setCell (p := ⟨w.heap.size + 1, 1, none⟩) (by simp) _).setCell (p := ⟨w.heap.size, 0, none⟩) (Nat.le_refl _) _).setCell (p := ⟨w.heap.size, 1, none⟩) (Nat.le_refl _) _).setCell (p := ⟨w.heap.size, 2, none⟩) (Nat.le_refl _) _)
              · cases is
                · go_wp2
                  refine bodyPost_ret (v := .tuple #[.agg #[.string ⟨#[]⟩, .string ⟨#[]⟩, .bool false], .int .i64 23]) (by simp [results, Try.results10, go_sem, r0, r1, r2]) rfl ⟨ret_val (by rw [HV.out]; rfl), ?_⟩
                  exact (((((b03.setCell (p := ⟨w.heap.size + 1, 0, none⟩) (by simp) _).setCell (p := ⟨w.heap.size + 1, 1, none⟩) (by simp) _).setCell (p := ⟨w.heap.size, 0, none⟩) (Nat.le_refl _) _).setCell (p := ⟨w.heap.size, 1, none⟩) (Nat.le_refl _) _).setCell (p := ⟨w.heap.size, 2, none⟩) (Nat.le_refl _) _)
                · cases hm : Rg.may ⟨lo, hi, false⟩
                  · rw [hm] at HV
                    obtain ⟨c, hc, hne, hnz⟩ := may_not hm
                    clear hm
                    have CA := aside (fun w => checkRef_at hc w)
                    go_wp2_with fail
                    refine (CA.out _).mono ?_
                    rintro e w9 ⟨rfl, b9⟩
                    have kr9 := keep (set_box1 (set_box0 Kr3.out (.string lo)) (.string hi)) b9
                    have kR9 := keep (set_far (set_far KR3.out (by omega) (.string lo)) (by omega) (.string hi)) b9
                    have b09 := bthen ((b03.setCell (p := ⟨w.heap.size + 1, 0, none⟩) (by simp) _).setCell (p := ⟨w.heap.size + 1, 1, none⟩) (by simp) _) b9
                    clear r0 r1 r2 r3 r4 r5 s0 s1 s2 s3 s4 s5 b9
                    obtain ⟨⟨r0, r1, r2⟩, r3, r4, r5⟩ := box_out kR9
                    obtain ⟨⟨s0, s1, s2⟩, -⟩ := box_out kr9
                    clear kr9 kR9 CA
                    clear hc
                    go_wp2
                    refine bodyPost_ret (v := .tuple #[.agg #[.string ⟨#[]⟩, .string ⟨#[]⟩, .bool false], .int .i64 23]) (by simp [results, Try.results10, go_sem, r0, r1, r2]) rfl ⟨ret_val (by rw [HV.out]; rfl), ?_⟩
                    exact (((b09.setCell (p := ⟨w.heap.size, 0, none⟩) (Nat.le_refl _) _).setCell (p := ⟨w.heap.size, 1, none⟩) (Nat.le_refl _) _).setCell (p := ⟨w.heap.size, 2, none⟩) (Nat.le_refl _) _)
                  · rw [hm] at HV
                    have hc := may_chk hm
                    clear hm
                    have CA := aside (fun w => checkRef_at hc w)
                    go_wp2_with fail
                    refine (CA.out _).mono ?_
                    rintro e w9 ⟨rfl, b9⟩
                    have kr9 := keep (set_box1 (set_box0 Kr3.out (.string lo)) (.string hi)) b9
                    have kR9 := keep (set_far (set_far KR3.out (by omega) (.string lo)) (by omega) (.string hi)) b9
                    have b09 := bthen ((b03.setCell (p := ⟨w.heap.size + 1, 0, none⟩) (by simp) _).setCell (p := ⟨w.heap.size + 1, 1, none⟩) (by simp) _) b9
                    clear r0 r1 r2 r3 r4 r5 s0 s1 s2 s3 s4 s5 b9
                    obtain ⟨⟨r0, r1, r2⟩, r3, r4, r5⟩ := box_out kR9
                    obtain ⟨⟨s0, s1, s2⟩, -⟩ := box_out kr9
                    clear kr9 kR9 CA
                    clear hc
                    go_wp2
                    refine bodyPost_ret (v := .tuple #[.agg #[.string lo, .string hi, .bool false], .int .i64 0]) (by simp [results, Try.results10, go_sem, r0, r1, r2]) rfl ⟨ret_val (by rw [HV.out]; rfl), ?_⟩
                    exact (((b09.setCell (p := ⟨w.heap.size, 0, none⟩) (Nat.le_refl _) _).setCell (p := ⟨w.heap.size, 1, none⟩) (Nat.le_refl _) _).setCell (p := ⟨w.heap.size, 2, none⟩) (Nat.le_refl _) _)
            · have hv : Hid (V = parseV none) := by
                show V = _
                rw [HV.out, HR.out, read_long HO.out (by rw [hlen]; omega) (by omega)]
              clear HV HR K1 DEN HO
              have HV := hv
              clear hv
              go_wp2_with fail
              refine (U1.out _).mono ?_
              rintro e w2 ⟨rfl, b2⟩
              have kR2 := keep KR0.out b2; have kr2 := keep Kr0.out b2
              have b02 := bthen b0 b2
              obtain ⟨⟨r0, r1, r2⟩, r3, r4, r5⟩ := box_out kR2
              obtain ⟨⟨s0, s1, s2⟩, s3, s4, s5⟩ := box_out kr2
              clear b2 b0 KR0 Kr0 kR2 kr2 U1
              cases ok
              · go_wp2
                refine bodyPost_ret (v := .tuple #[.agg #[.string ⟨#[]⟩, .string ⟨#[]⟩, .bool false], .int .i64 23]) (by simp [results, Try.results10, go_sem, r0, r1, r2]) rfl ⟨ret_val (by rw [HV.out]; rfl), ?_⟩
                exact (((((b02.setCell (p := ⟨w.heap.size + 1, 0, none⟩) (by simp) _).setCell (p := ⟨w.heap.size + 1, 1, none⟩) (by simp) _).setCell (p := ⟨w.heap.size, 0, none⟩) (Nat.le_refl _) _).setCell (p := ⟨w.heap.size, 1, none⟩) (Nat.le_refl _) _).setCell (p := ⟨w.heap.size, 2, none⟩) (Nat.le_refl _) _)
              · go_wp2
                refine bodyPost_ret (v := .tuple #[.agg #[.string ⟨#[]⟩, .string ⟨#[]⟩, .bool false], .int .i64 23]) (by simp [results, Try.results10, go_sem, r0, r1, r2]) rfl ⟨ret_val (by rw [HV.out]; rfl), ?_⟩
                exact (((((b02.setCell (p := ⟨w.heap.size + 1, 0, none⟩) (by simp) _).setCell (p := ⟨w.heap.size + 1, 1, none⟩) (by simp) _).setCell (p := ⟨w.heap.size, 0, none⟩) (Nat.le_refl _) _).setCell (p := ⟨w.heap.size, 1, none⟩) (Nat.le_refl _) _).setCell (p := ⟨w.heap.size, 2, none⟩) (Nat.le_refl _) _)
          · rw [hop2] at hop
            have HO := aside hop2
            clear hop2
            have hv : Hid (V = parseV (if ok && true && Rg.may ⟨lo, ⟨#[]⟩, true⟩ then some ⟨lo, ⟨#[]⟩, true⟩ else none)) := by
              show V = _
              rw [HV.out, HR.out, read_eq K1.out (hi := ⟨#[]⟩) (is := true) (by rw [HO.out]; exact .inl ⟨rfl, rfl⟩), HO.out]
            clear HV HR K1 DEN HO
            have HV := hv
            clear hv
            go_wp2_with fail
            refine (U1.out _).mono ?_
            rintro e w2 ⟨rfl, b2⟩
            have kR2 := keep KR0.out b2; have kr2 := keep Kr0.out b2
            have b02 := bthen b0 b2
            have KR2 := aside kR2; have Kr2 := aside kr2
            obtain ⟨⟨r0, r1, r2⟩, r3, r4, r5⟩ := box_out kR2
            obtain ⟨⟨s0, s1, s2⟩, s3, s4, s5⟩ := box_out kr2
            clear b2 b0 KR0 Kr0 kR2 kr2 U1
            cases ok
            · go_wp2
              refine bodyPost_ret (v := .tuple #[.agg #[.string ⟨#[]⟩, .string ⟨#[]⟩, .bool false], .int .i64 23]) (by simp [results, Try.results10, go_sem, r0, r1, r2]) rfl ⟨ret_val (by rw [HV.out]; rfl), ?_⟩
              exact ((((((b02.setCell (p := ⟨w.heap.size + 1, 2, none⟩) (by simp) _).setCell (p := ⟨w.heap.size + 1, 0, none⟩) (by simp) _).setCell (p := ⟨w.heap.size + 1, 1, none⟩) (by simp) _).setCell (p := ⟨w.heap.size, 0, none⟩) (Nat.le_refl _) _).setCell (p := ⟨w.heap.size, 1, none⟩) (Nat.le_refl _) _).setCell (p := ⟨w.heap.size, 2, none⟩) (Nat.le_refl _) _)
            · cases hm : Rg.may ⟨lo, ⟨#[]⟩, true⟩
              · rw [hm] at HV
                obtain ⟨c, hc, hne, hnz⟩ := may_not hm
                clear hm
                have CA := aside (fun w => checkRef_at hc w)
                go_wp2_with fail
                refine (CA.out _).mono ?_
                rintro e w9 ⟨rfl, b9⟩
                have kr9 := keep (set_box1 (set_box0 (set_box2 Kr2.out (.bool true)) (.string lo)) (.string ⟨#[]⟩)) b9
                have kR9 := keep (set_far (set_far (set_far KR2.out (by omega) (.bool true)) (by omega) (.string lo)) (by omega) (.string ⟨#[]⟩)) b9
                have b09 := bthen (((b02.setCell (p := ⟨w.heap.size + 1, 2, none⟩) (by simp) _).setCell (p := ⟨w.heap.size + 1, 0, none⟩) (by simp) _).setCell (p := ⟨w.heap.size + 1, 1, none⟩) (by simp) _) b9
                clear r0 r1 r2 r3 r4 r5 s0 s1 s2 s3 s4 s5 b9
                obtain ⟨⟨r0, r1, r2⟩, r3, r4, r5⟩ := box_out kR9
                obtain ⟨⟨s0, s1, s2⟩, -⟩ := box_out kr9
                clear kr9 kR9 CA
                clear hc
                go_wp2
                refine bodyPost_ret (v := .tuple #[.agg #[.string ⟨#[]⟩, .string ⟨#[]⟩, .bool false], .int .i64 23]) (by simp [results, Try.results10, go_sem, r0, r1, r2]) rfl ⟨ret_val (by rw [HV.out]; rfl), ?_⟩
                exact (((b09.setCell (p := ⟨w.heap.size, 0, none⟩) (Nat.le_refl _) _).setCell (p := ⟨w.heap.size, 1, none⟩) (Nat.le_refl _) _).setCell (p := ⟨w.heap.size, 2, none⟩) (Nat.le_refl _) _)
              · rw [hm] at HV
                have hc := may_chk hm
                clear hm
                have CA := aside (fun w => checkRef_at hc w)
                go_wp2_with fail
                refine (CA.out _).mono ?_
                rintro e w9 ⟨rfl, b9⟩
                have kr9 := keep (set_box1 (set_box0 (set_box2 Kr2.out (.bool true)) (.string lo)) (.string ⟨#[]⟩)) b9
                have kR9 := keep (set_far (set_far (set_far KR2.out (by omega) (.bool true)) (by omega) (.string lo)) (by omega) (.string ⟨#[]⟩)) b9
                have b09 := bthen (((b02.setCell (p := ⟨w.heap.size + 1, 2, none⟩) (by simp) _).setCell (p := ⟨w.heap.size + 1, 0, none⟩) (by simp) _).setCell (p := ⟨w.heap.size + 1, 1, none⟩) (by simp) _) b9
                clear r0 r1 r2 r3 r4 r5 s0 s1 s2 s3 s4 s5 b9
                obtain ⟨⟨r0, r1, r2⟩, r3, r4, r5⟩ := box_out kR9
                obtain ⟨⟨s0, s1, s2⟩, -⟩ := box_out kr9
                clear kr9 kR9 CA
                clear hc
                go_wp2
                refine bodyPost_ret (v := .tuple #[.agg #[.string lo, .string ⟨#[]⟩, .bool true], .int .i64 0]) (by simp [results, Try.results10, go_sem, r0, r1, r2]) rfl ⟨ret_val (by rw [HV.out]; rfl), ?_⟩
                exact (((b09.setCell (p := ⟨w.heap.size, 0, none⟩) (Nat.le_refl _) _).setCell (p := ⟨w.heap.size, 1, none⟩) (Nat.le_refl _) _).setCell (p := ⟨w.heap.size, 2, none⟩) (Nat.le_refl _) _)
      · have hnone := aside (parse_past HN.out (.inl (by omega)))
        have kR := heap_new w (.cells #[.string ⟨#[]⟩, .string ⟨#[]⟩, .bool false] 23)
        obtain ⟨⟨r0, r1, r2⟩, r3, r4, r5⟩ := box_out kR
        clear kR
        go_wp2
        refine bodyPost_ret (v := .tuple #[.agg #[.string ⟨#[]⟩, .string ⟨#[]⟩, .bool false], .int .i64 23]) (by simp [results, Try.results10, go_sem]) rfl ⟨ret_val (by rw [HV.out, hnone.out]; rfl), ?_⟩
        exact bnew w _
    · have hnone := aside (parse_past HN.out (.inr (by rw [hlen]; omega)))
      have kR := heap_new w (.cells #[.string ⟨#[]⟩, .string ⟨#[]⟩, .bool false] 23)
      obtain ⟨⟨r0, r1, r2⟩, r3, r4, r5⟩ := box_out kR
      clear kR
      go_wp2
      refine bodyPost_ret (v := .tuple #[.agg #[.string ⟨#[]⟩, .string ⟨#[]⟩, .bool false], .int .i64 23]) (by simp [results, Try.results10, go_sem]) rfl ⟨ret_val (by rw [HV.out, hnone.out]; rfl), ?_⟩
      exact bnew w _

end Go.Proofs.Ytidajlnaehhkkab

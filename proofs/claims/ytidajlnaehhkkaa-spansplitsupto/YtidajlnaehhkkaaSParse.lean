/-
  Parse, the code's: it returns the range whose text it is, or ErrText. Whole: the whole range.
-/
import Derived.Test.YtidajlnaehhkkaaSPrint
import Derived.Test.YtidajlnaehhkkaaHexWalks4
import Derived.Test.YtidajlnaehhkkaaShelf
namespace Go.Proofs.Ytidajlnaehhkkaa
open Go.RowKit

/-- A length that the library keeps is some number (it is read, and what it is doesn't matter). -/
def MaxAt (w : World) : Prop := ∃ m : Int, w.cell? ⟨0, 0, none⟩ = some (.int .i64 m)

theorem MaxAt.lt {w : World} (h : MaxAt w) : 0 < w.heap.size := by
  obtain ⟨m, h⟩ := h
  exact World.block_lt_of_cell? w _ h

theorem MaxAt.below {w w' : World} (h : MaxAt w) (b : Below w.heap.size w w') : MaxAt w' := by
  have hl := h.lt
  obtain ⟨m, h⟩ := h
  exact ⟨m, (b.cell (p := ⟨0, 0, none⟩) hl).trans h⟩

theorem cut_str {s st en : ByteArray} {fd : Bool} (h1 : (Lib.cut s.data.toList [46, 46]).1 = st.data.toList) (h2 : (Lib.cut s.data.toList [46, 46]).2.1 = en.data.toList) (h3 : (Lib.cut s.data.toList [46, 46]).2.2 = fd) (hs : s.size < 4294967281) (w : World) (hw : MaxAt w) :
    Calls Try.prog 37 #[.string s, .string ⟨#[46, 46]⟩] w fun e w' => e = .returned (.tuple #[.string st, .string en, .bool fd]) ∧ Below w.heap.size w w' := by
  obtain ⟨m, hm⟩ := hw
  refine (Try.strings_Cut s ⟨#[46, 46]⟩ m w hs hm).mono ?_
  rintro e w' ⟨rfl, n, rfl⟩
  refine ⟨?_, ⟨rfl, rfl, rfl, Nat.le_refl _, fun _ _ => rfl⟩⟩
  show Ending.returned (.tuple #[.string ⟨(Lib.cut s.data.toList [46, 46]).1.toArray⟩, .string ⟨(Lib.cut s.data.toList [46, 46]).2.1.toArray⟩, .bool (Lib.cut s.data.toList [46, 46]).2.2]) = _
  rw [h1, h2, h3]

theorem unhex_at {s lo : ByteArray} {e : Int} (h : unhexVal s.data.toList = .tuple #[.string lo, .int .i64 e]) (hs : s.size ≤ 4294967296) (w : World) :
    Calls Try.prog 38 #[.string s] w fun x w' => x = .returned (.tuple #[.string lo, .int .i64 e]) ∧ Below w.heap.size w w' := by
  rw [← h]; exact unhex_any s w hs

/-- What is handed back where the text is none. -/
def noneV : Value := .tuple #[.agg #[.string ⟨#[]⟩, .string ⟨#[]⟩, .bool false], .int .i64 23]

set_option maxHeartbeats 3200000 in
theorem parse_core (s st en en' lo hi : ByteArray) (fd op m : Bool) (e1 e2 : Int) (w : World) (hw : MaxAt w) (hs : s.size < 4294967281)
    (h1 : (Lib.cut s.data.toList [46, 46]).1 = st.data.toList) (h2 : (Lib.cut s.data.toList [46, 46]).2.1 = en.data.toList) (h3 : (Lib.cut s.data.toList [46, 46]).2.2 = fd)
    (hop : (en.toList == [42]) = op) (hen : en' = bif op then ⟨#[]⟩ else en) (g1 : unhexVal st.data.toList = .tuple #[.string lo, .int .i64 e1]) (g2 : unhexVal en'.data.toList = .tuple #[.string hi, .int .i64 e2])
    (z1 : st.size ≤ 4294967296) (z2 : en'.size ≤ 4294967296) (hm : Rg.may ⟨lo, hi, op⟩ = m) (n1 : e1 = 0 ∨ e1 = 23) (n2 : e2 = 0 ∨ e2 = 23) :
    Calls Try.prog 29 #[.string s] w fun e w' => e = .returned (bif fd && e1 == 0 && e2 == 0 && m then .tuple #[.agg #[.string lo, .string hi, .bool op], .int .i64 0] else noneV) ∧ Below w.heap.size w w' := by
  have CC := aside (fun w hw => cut_str h1 h2 h3 hs w hw)
  have U1 := aside (fun w => unhex_at g1 z1 w)
  have U2 := aside (fun w => unhex_at g2 z2 w)
  have CM := aside (fun w => mayBe_at hm w)
  have HW := aside (hw.below (bnew w (.cells #[.string ⟨#[]⟩, .string ⟨#[]⟩, .bool false] 23)))
  clear h1 h2 h3 g1 g2 hw hm hs z1 z2
  obtain ⟨V, hV⟩ : ∃ V, V = (bif fd && e1 == 0 && e2 == 0 && m then .tuple #[.agg #[.string lo, .string hi, .bool op], .int .i64 0] else noneV) := ⟨_, rfl⟩
  rw [← hV]
  have HV := aside hV
  clear hV
  go_enter Try.func29, Try.ntmps29
  go_wp2_with fail
  refine (CC.out _ HW.out).mono ?_
  rintro e w1 ⟨rfl, b1⟩
  have kR := keep (heap_new w (.cells #[.string ⟨#[]⟩, .string ⟨#[]⟩, .bool false] 23)) b1
  have b01 := bthen (bnew w (.cells #[.string ⟨#[]⟩, .string ⟨#[]⟩, .bool false] 23)) b1
  clear b1 CC HW
  cases op
  · obtain rfl : en' = en := hen
    go_wp2_with fail
    refine (U1.out _).mono ?_
    rintro e w2 ⟨rfl, b2⟩
    have b02 := bthen b01 b2
    have kR2 := keep kR b2
    clear b2 kR b01
    go_wp2_with fail
    refine (U2.out _).mono ?_
    rintro e w3 ⟨rfl, b3⟩
    have b03 := bthen b02 b3
    have kR3 := keep kR2 b3
    clear b3 kR2 b02 U1 U2
    have KR := aside kR3
    have hn := lies kR3
    obtain ⟨⟨r0, r1, r2⟩, r3, r4, r5⟩ := box_out kR3
    clear kR3
    cases fd
    · go_wp2
      refine bodyPost_ret (v := .tuple #[.agg #[.string ⟨#[]⟩, .string ⟨#[]⟩, .bool false], .int .i64 23]) (by simp [results, Try.results29, go_sem, r0, r1, r2, hn]) rfl ⟨ret_val (by rw [HV.out]; rfl), ?_⟩
      exact (((b03.setCell (p := ⟨w.heap.size, 0, none⟩) (Nat.le_refl _) _).setCell (p := ⟨w.heap.size, 1, none⟩) (Nat.le_refl _) _).setCell (p := ⟨w.heap.size, 2, none⟩) (Nat.le_refl _) _).alloc (by simp; omega) _
    · rcases n1 with rfl | rfl
      · rcases n2 with rfl | rfl
        · cases m
          · go_wp2_with fail
            refine (CM.out _).mono ?_
            rintro e w4 ⟨rfl, b4⟩
            have kR4 := keep (keepA (p := .cells #[.string lo, .string hi, .bool false] 23) KR.out) (w1 := w3.alloc (.cells #[.string lo, .string hi, .bool false] 23)) b4
            have kM := keep (heap_new w3 (.cells #[.string lo, .string hi, .bool false] 23)) b4
            have b04 := bthen b03 (bthen (bnew w3 (.cells #[.string lo, .string hi, .bool false] 23)) b4)
            clear r0 r1 r2 r3 r4 r5 b4 hn
            obtain ⟨⟨r0, r1, r2⟩, r3, r4, r5⟩ := box_out kR4
            obtain ⟨⟨m0, m1, m2⟩, -⟩ := box_out kM
            clear kR4 kM
            go_wp2
            refine bodyPost_ret (v := .tuple #[.agg #[.string ⟨#[]⟩, .string ⟨#[]⟩, .bool false], .int .i64 23]) (by simp [results, Try.results29, go_sem, r0, r1, r2]) rfl ⟨ret_val (by rw [HV.out]; rfl), ?_⟩
            exact (((b04.setCell (p := ⟨w.heap.size, 0, none⟩) (Nat.le_refl _) _).setCell (p := ⟨w.heap.size, 1, none⟩) (Nat.le_refl _) _).setCell (p := ⟨w.heap.size, 2, none⟩) (Nat.le_refl _) _)
          · go_wp2_with fail
            refine (CM.out _).mono ?_
            rintro e w4 ⟨rfl, b4⟩
            have kR4 := keep (keepA (p := .cells #[.string lo, .string hi, .bool false] 23) KR.out) (w1 := w3.alloc (.cells #[.string lo, .string hi, .bool false] 23)) b4
            have kM := keep (heap_new w3 (.cells #[.string lo, .string hi, .bool false] 23)) b4
            have b04 := bthen b03 (bthen (bnew w3 (.cells #[.string lo, .string hi, .bool false] 23)) b4)
            clear r0 r1 r2 r3 r4 r5 b4 hn
            obtain ⟨⟨r0, r1, r2⟩, r3, r4, r5⟩ := box_out kR4
            obtain ⟨⟨m0, m1, m2⟩, -⟩ := box_out kM
            clear kR4 kM
            go_wp2
            refine bodyPost_ret (v := .tuple #[.agg #[.string lo, .string hi, .bool false], .int .i64 0]) (by simp [results, Try.results29, go_sem, r0, r1, r2]) rfl ⟨ret_val (by rw [HV.out]; rfl), ?_⟩
            exact (((b04.setCell (p := ⟨w.heap.size, 0, none⟩) (Nat.le_refl _) _).setCell (p := ⟨w.heap.size, 1, none⟩) (Nat.le_refl _) _).setCell (p := ⟨w.heap.size, 2, none⟩) (Nat.le_refl _) _)
        · go_wp2
          refine bodyPost_ret (v := .tuple #[.agg #[.string ⟨#[]⟩, .string ⟨#[]⟩, .bool false], .int .i64 23]) (by simp [results, Try.results29, go_sem, r0, r1, r2, hn]) rfl ⟨ret_val (by rw [HV.out]; rfl), ?_⟩
          exact (((b03.setCell (p := ⟨w.heap.size, 0, none⟩) (Nat.le_refl _) _).setCell (p := ⟨w.heap.size, 1, none⟩) (Nat.le_refl _) _).setCell (p := ⟨w.heap.size, 2, none⟩) (Nat.le_refl _) _).alloc (by simp; omega) _
      · go_wp2
        refine bodyPost_ret (v := .tuple #[.agg #[.string ⟨#[]⟩, .string ⟨#[]⟩, .bool false], .int .i64 23]) (by simp [results, Try.results29, go_sem, r0, r1, r2, hn]) rfl ⟨ret_val (by rw [HV.out]; rfl), ?_⟩
        exact (((b03.setCell (p := ⟨w.heap.size, 0, none⟩) (Nat.le_refl _) _).setCell (p := ⟨w.heap.size, 1, none⟩) (Nat.le_refl _) _).setCell (p := ⟨w.heap.size, 2, none⟩) (Nat.le_refl _) _).alloc (by simp; omega) _
  · obtain rfl : en' = ⟨#[]⟩ := hen
    go_wp2_with fail
    refine (U1.out _).mono ?_
    rintro e w2 ⟨rfl, b2⟩
    have b02 := bthen b01 b2
    have kR2 := keep kR b2
    clear b2 kR b01
    go_wp2_with fail
    refine (U2.out _).mono ?_
    rintro e w3 ⟨rfl, b3⟩
    have b03 := bthen b02 b3
    have kR3 := keep kR2 b3
    clear b3 kR2 b02 U1 U2
    have KR := aside kR3
    have hn := lies kR3
    obtain ⟨⟨r0, r1, r2⟩, r3, r4, r5⟩ := box_out kR3
    clear kR3
    cases fd
    · go_wp2
      refine bodyPost_ret (v := .tuple #[.agg #[.string ⟨#[]⟩, .string ⟨#[]⟩, .bool false], .int .i64 23]) (by simp [results, Try.results29, go_sem, r0, r1, r2, hn]) rfl ⟨ret_val (by rw [HV.out]; rfl), ?_⟩
      exact (((b03.setCell (p := ⟨w.heap.size, 0, none⟩) (Nat.le_refl _) _).setCell (p := ⟨w.heap.size, 1, none⟩) (Nat.le_refl _) _).setCell (p := ⟨w.heap.size, 2, none⟩) (Nat.le_refl _) _).alloc (by simp; omega) _
    · rcases n1 with rfl | rfl
      · rcases n2 with rfl | rfl
        · cases m
          · go_wp2_with fail
            refine (CM.out _).mono ?_
            rintro e w4 ⟨rfl, b4⟩
            have kR4 := keep (keepA (p := .cells #[.string lo, .string hi, .bool true] 23) KR.out) (w1 := w3.alloc (.cells #[.string lo, .string hi, .bool true] 23)) b4
            have kM := keep (heap_new w3 (.cells #[.string lo, .string hi, .bool true] 23)) b4
            have b04 := bthen b03 (bthen (bnew w3 (.cells #[.string lo, .string hi, .bool true] 23)) b4)
            clear r0 r1 r2 r3 r4 r5 b4 hn
            obtain ⟨⟨r0, r1, r2⟩, r3, r4, r5⟩ := box_out kR4
            obtain ⟨⟨m0, m1, m2⟩, -⟩ := box_out kM
            clear kR4 kM
            go_wp2
            refine bodyPost_ret (v := .tuple #[.agg #[.string ⟨#[]⟩, .string ⟨#[]⟩, .bool false], .int .i64 23]) (by simp [results, Try.results29, go_sem, r0, r1, r2]) rfl ⟨ret_val (by rw [HV.out]; rfl), ?_⟩
            exact (((b04.setCell (p := ⟨w.heap.size, 0, none⟩) (Nat.le_refl _) _).setCell (p := ⟨w.heap.size, 1, none⟩) (Nat.le_refl _) _).setCell (p := ⟨w.heap.size, 2, none⟩) (Nat.le_refl _) _)
          · go_wp2_with fail
            refine (CM.out _).mono ?_
            rintro e w4 ⟨rfl, b4⟩
            have kR4 := keep (keepA (p := .cells #[.string lo, .string hi, .bool true] 23) KR.out) (w1 := w3.alloc (.cells #[.string lo, .string hi, .bool true] 23)) b4
            have kM := keep (heap_new w3 (.cells #[.string lo, .string hi, .bool true] 23)) b4
            have b04 := bthen b03 (bthen (bnew w3 (.cells #[.string lo, .string hi, .bool true] 23)) b4)
            clear r0 r1 r2 r3 r4 r5 b4 hn
            obtain ⟨⟨r0, r1, r2⟩, r3, r4, r5⟩ := box_out kR4
            obtain ⟨⟨m0, m1, m2⟩, -⟩ := box_out kM
            clear kR4 kM
            go_wp2
            refine bodyPost_ret (v := .tuple #[.agg #[.string lo, .string hi, .bool true], .int .i64 0]) (by simp [results, Try.results29, go_sem, r0, r1, r2]) rfl ⟨ret_val (by rw [HV.out]; rfl), ?_⟩
            exact (((b04.setCell (p := ⟨w.heap.size, 0, none⟩) (Nat.le_refl _) _).setCell (p := ⟨w.heap.size, 1, none⟩) (Nat.le_refl _) _).setCell (p := ⟨w.heap.size, 2, none⟩) (Nat.le_refl _) _)
        · go_wp2
          refine bodyPost_ret (v := .tuple #[.agg #[.string ⟨#[]⟩, .string ⟨#[]⟩, .bool false], .int .i64 23]) (by simp [results, Try.results29, go_sem, r0, r1, r2, hn]) rfl ⟨ret_val (by rw [HV.out]; rfl), ?_⟩
          exact (((b03.setCell (p := ⟨w.heap.size, 0, none⟩) (Nat.le_refl _) _).setCell (p := ⟨w.heap.size, 1, none⟩) (Nat.le_refl _) _).setCell (p := ⟨w.heap.size, 2, none⟩) (Nat.le_refl _) _).alloc (by simp; omega) _
      · go_wp2
        refine bodyPost_ret (v := .tuple #[.agg #[.string ⟨#[]⟩, .string ⟨#[]⟩, .bool false], .int .i64 23]) (by simp [results, Try.results29, go_sem, r0, r1, r2, hn]) rfl ⟨ret_val (by rw [HV.out]; rfl), ?_⟩
        exact (((b03.setCell (p := ⟨w.heap.size, 0, none⟩) (Nat.le_refl _) _).setCell (p := ⟨w.heap.size, 1, none⟩) (Nat.le_refl _) _).setCell (p := ⟨w.heap.size, 2, none⟩) (Nat.le_refl _) _).alloc (by simp; omega) _

set_option maxHeartbeats 400000 in
theorem whole_any (w : World) : Calls Try.prog 30 #[] w fun e w' => e = .returned (.agg #[.string ⟨#[]⟩, .string ⟨#[]⟩, .bool true]) ∧ Below w.heap.size w w' := by
  go_enter Try.func30, Try.ntmps30
  go_wp2
  refine bodyPost_ret (v := .agg #[.string ⟨#[]⟩, .string ⟨#[]⟩, .bool true]) (by simp [results, Try.results30, go_sem]) rfl ⟨rfl, bnew w _⟩

end Go.Proofs.Ytidajlnaehhkkaa

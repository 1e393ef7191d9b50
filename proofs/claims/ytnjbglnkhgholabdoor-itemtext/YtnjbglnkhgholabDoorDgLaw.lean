/-
  Parse, the code's, by a contract over the library's; and the law NumsDigits, walked.
-/
import Derived.Test.YtnjbglnkhgholabDoorDgParse
namespace Go.Proofs.YtnjbglnkhgholabDoor
open Go.RowKit
set_option linter.unusedVariables false

set_option maxHeartbeats 800000 in
set_option maxRecDepth 100000 in
theorem parse_any (s : ByteArray) (most : Int) (hs : s.size ≤ 2147483647) (ev : Value) (w : World) (hv : w.cell? ⟨7, 0, none⟩ = some ev) (hev : ev = .nilIface ∨ ∃ te pe, ev = .iface te pe) :
    Calls Tryd.prog 41 #[.string s, .int .i64 most] w fun e w' => e = .returned (.tuple #[.int .i64 (parseP s.data.toList most).1, .int .i64 (parseP s.data.toList most).2]) ∧ Below w.heap.size w w' := by
  have HV := aside hv
  have HE := aside hev
  have hlt : 7 < w.heap.size := World.block_lt_of_cell? w _ hv
  clear hv hev
  by_cases hn : isNum s.data.toList
  · have hN : numB s.data.toList = true := decide_eq_true hn
    by_cases hval : valD 0 s.data.toList < 9223372036854775808
    · have HA := aside (atoi_ok hn hval)
      obtain ⟨v, hvE⟩ : ∃ v : Nat, v = valD 0 s.data.toList := ⟨_, rfl⟩
      rw [← hvE] at HA hval
      have hv63 : v ≤ 9223372036854775807 := by omega
      by_cases hm : most < (v : Int)
      · have HF : Hid (parseP s.data.toList most = (0, 12)) := parse_over hn (.inr (by rw [← hvE]; exact hm))
        clear hn hval hvE
        go_enter Tryd.func41, Tryd.ntmps41
        go_wp2_with fail
        refine (isNumber_any s hs _).mono ?_
        rintro e w1 ⟨rfl, b1⟩
        rw [hN]
        go_wp2_with fail
        refine (Tryd.strconv_Atoi_ok s (by omega) (v : Int) HA.out _).mono ?_
        rintro e w2 ⟨rfl, hw2⟩
        have b2 : Below w.heap.size w w2 := by
          rcases hw2 with rfl | ⟨t, rfl⟩
          · exact b1
          · exact b1.trans ((Lib.bytesWorld_below _ _ _).mono b1.size)
        clear hw2
        go_wp2
        go_ret2
        exact ⟨by rw [HF.out]; rfl, b2⟩
      · have HF : Hid (parseP s.data.toList most = ((v : Int), 0)) := parse_on hn hvE hv63 hm
        clear hn hval hvE
        go_enter Tryd.func41, Tryd.ntmps41
        go_wp2_with fail
        refine (isNumber_any s hs _).mono ?_
        rintro e w1 ⟨rfl, b1⟩
        rw [hN]
        go_wp2_with fail
        refine (Tryd.strconv_Atoi_ok s (by omega) (v : Int) HA.out _).mono ?_
        rintro e w2 ⟨rfl, hw2⟩
        have b2 : Below w.heap.size w w2 := by
          rcases hw2 with rfl | ⟨t, rfl⟩
          · exact b1
          · exact b1.trans ((Lib.bytesWorld_below _ _ _).mono b1.size)
        clear hw2
        go_wp2
        go_ret2
        exact ⟨by rw [HF.out]; rfl, b2⟩
    · have HA := aside (atoi_range hn hval)
      have HF : Hid (parseP s.data.toList most = (0, 12)) := parse_over hn (.inl (by omega))
      clear hn hval
      go_enter Tryd.func41, Tryd.ntmps41
      go_wp2_with fail
      refine (isNumber_any s hs _).mono ?_
      rintro e w1 ⟨rfl, b1⟩
      rw [hN]
      go_wp2_with fail
      refine (Tryd.strconv_Atoi_range s (by omega) HA.out ev _ ((b1.cell (p := ⟨7, 0, none⟩) hlt).trans HV.out) HE.out).mono ?_
      rintro e w2 ⟨N, rfl, _, _, hw2⟩
      have b2 : Below w.heap.size w w2 := b1.trans (hw2.mono b1.size)
      clear hw2
      go_wp2
      go_ret2
      exact ⟨by rw [HF.out]; rfl, b2⟩
  · have hN : numB s.data.toList = false := decide_eq_false hn
    have HF : Hid (parseP s.data.toList most = (0, 23)) := parse_bad hn
    clear hn
    go_enter Tryd.func41, Tryd.ntmps41
    go_wp2_with fail
    refine (isNumber_any s hs _).mono ?_
    rintro e w1 ⟨rfl, b1⟩
    rw [hN]
    go_wp2
    go_ret2
    exact ⟨by rw [HF.out]; rfl, b1⟩

/-- The document's digits of any int. -/
theorem refDigits_int (n : Int) (u : Nat) (hu : (u : Int) = max n 0) (hn : n ≤ 9223372036854775807) (w : World) :
    Calls Tryd.prog 14 #[.int .i64 n] w fun e w' => e = .returned (.string ⟨(Lib.decDigits u).toArray⟩) ∧ Below w.heap.size w w' := by
  rcases Int.lt_or_le n 0 with h | h
  · have hu0 : u = 0 := by omega
    subst hu0
    exact refDigits_neg n h w
  · have hnu : n = (u : Int) := by omega
    subst hnu
    exact refDigits_any u (by omega) w

end Go.Proofs.YtnjbglnkhgholabDoor

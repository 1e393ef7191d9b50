/-
  Parse, the code's, by a contract over the library's; and the law NumsDigits, walked.
-/
import Derived.Test.YtccbmppmnddkpaaDoorDigParse
namespace Go.Proofs.YtccbmppmnddkpaaDoor
open Go.RowKit
set_option linter.unusedVariables false

set_option maxHeartbeats 800000 in
set_option maxRecDepth 100000 in
theorem parse_any (s : ByteArray) (most : Int) (hs : s.size ≤ 2147483647) (ev : Value) (w : World) (hv : w.cell? ⟨1, 0, none⟩ = some ev) (hev : ev = .nilIface ∨ ∃ te pe, ev = .iface te pe) :
    Calls Tryd.prog 5 #[.string s, .int .i64 most] w fun e w' => e = .returned (.tuple #[.int .i64 (parseP s.data.toList most).1, .int .i64 (parseP s.data.toList most).2]) ∧ Below w.heap.size w w' := by
  have HV := aside hv
  have HE := aside hev
  have hlt : 1 < w.heap.size := World.block_lt_of_cell? w _ hv
  clear hv hev
  by_cases hn : isNum s.data.toList
  · have hN : numB s.data.toList = true := decide_eq_true hn
    by_cases hval : valD 0 s.data.toList < 9223372036854775808
    · have HA := aside (atoi_ok hn hval)
      obtain ⟨v, hvE⟩ : ∃ v : Nat, v = valD 0 s.data.toList := ⟨_, rfl⟩
      rw [← hvE] at HA hval
      have hv63 : v ≤ 9223372036854775807 := by omega
      by_cases hm : most < (v : Int)
      · have HF : Hid (parseP s.data.toList most = (0, 12)) := parse_over hn (.inr (by rw [← hvE]; exact hm))
        clear hn hval hvE
        go_enter Tryd.func5, Tryd.ntmps5
        go_wp2_with fail
        refine (isNumber_any s hs _).mono ?_
        rintro e w1 ⟨rfl, b1⟩
        rw [hN]
        go_wp2_with fail
        refine (Tryd.strconv_Atoi_ok s (by omega) (v : Int) HA.out _).mono ?_
        rintro e w2 ⟨rfl, hw2⟩
        have b2 : Below w.heap.size w w2 := by
          rcases hw2 with rfl | ⟨t, rfl⟩
          · exact b1
          · exact b1.trans ((Lib.bytesWorld_below _ _ _).mono b1.size)
        clear hw2
        go_wp2
        go_ret2
        exact ⟨by rw [HF.out]; rfl, b2⟩
      · have HF : Hid (parseP s.data.toList most = ((v : Int), 0)) := parse_on hn hvE hv63 hm
        clear hn hval hvE
        go_enter Tryd.func5, Tryd.ntmps5
        go_wp2_with fail
        refine (isNumber_any s hs _).mono ?_
        rintro e w1 ⟨rfl, b1⟩
        rw [hN]
        go_wp2_with fail
        refine (Tryd.strconv_Atoi_ok s (by omega) (v : Int) HA.out _).mono ?_
        rintro e w2 ⟨rfl, hw2⟩
        have b2 : Below w.heap.size w w2 := by
          rcases hw2 with rfl | ⟨t, rfl⟩
          · exact b1
          · exact b1.trans ((Lib.bytesWorld_below _ _ _).mono b1.size)
        clear hw2
        go_wp2
        go_ret2
        exact ⟨by rw [HF.out]; rfl, b2⟩
    · have HA := aside (atoi_range hn hval)
      have HF : Hid (parseP s.data.toList most = (0, 12)) := parse_over hn (.inl (by omega))
      clear hn hval
      go_enter Tryd.func5, Tryd.ntmps5
      go_wp2_with fail
      refine (isNumber_any s hs _).mono ?_
      rintro e w1 ⟨rfl, b1⟩
      rw [hN]
      go_wp2_with fail
      refine (Tryd.strconv_Atoi_range s (by omega) HA.out ev _ ((b1.cell (p := ⟨1, 0, none⟩) hlt).trans HV.out) HE.out).mono ?_
      rintro e w2 ⟨N, rfl, _, _, hw2⟩
      have b2 : Below w.heap.size w w2 := b1.trans (hw2.mono b1.size)
      clear hw2
      go_wp2
      go_ret2
      exact ⟨by rw [HF.out]; rfl, b2⟩
  · have hN : numB s.data.toList = false := decide_eq_false hn
    have HF : Hid (parseP s.data.toList most = (0, 23)) := parse_bad hn
    clear hn
    go_enter Tryd.func5, Tryd.ntmps5
    go_wp2_with fail
    refine (isNumber_any s hs _).mono ?_
    rintro e w1 ⟨rfl, b1⟩
    rw [hN]
    go_wp2
    go_ret2
    exact ⟨by rw [HF.out]; rfl, b1⟩

/-- The document's digits of any int. -/
theorem refDigits_int (n : Int) (u : Nat) (hu : (u : Int) = max n 0) (hn : n ≤ 9223372036854775807) (w : World) :
    Calls Tryd.prog 7 #[.int .i64 n] w fun e w' => e = .returned (.string ⟨(Lib.decDigits u).toArray⟩) ∧ Below w.heap.size w w' := by
  rcases Int.lt_or_le n 0 with h | h
  · have hu0 : u = 0 := by omega
    subst hu0
    exact refDigits_neg n h w
  · have hnu : n = (u : Int) := by omega
    subst hnu
    exact refDigits_any u (by omega) w

set_option maxHeartbeats 800000 in
set_option maxRecDepth 100000 in
theorem digits_in (n : Int) (s : ByteArray) (most : Int) (hn : n ≤ 9223372036854775807) (hs : s.size ≤ 2147483647) (ev : Value) (w : World) (hv : w.cell? ⟨1, 0, none⟩ = some ev) (hev : ev = .nilIface ∨ ∃ te pe, ev = .iface te pe)
    (htab : Lib.TabIs Tryd.prog w "internal/strconv.uint64pow10" .u64 Lib.pow10Tab) :
    Calls Tryd.prog 3 #[.int .i64 n, .string s, .int .i64 most] w fun e w' => e = .returned (.bool true) ∧ Below w.heap.size w w' := by
  obtain ⟨u, hu⟩ : ∃ u : Nat, (u : Int) = max n 0 := ⟨(max n 0).toNat, by omega⟩
  have hlt : 1 < w.heap.size := World.block_lt_of_cell? w _ hv
  have hs' : (s.size : Int) ≤ 2147483647 := by omega
  have HU := aside hu
  have HN := aside hn
  have HV := aside hv
  have HE := aside hev
  have HT := aside htab
  have HS := aside hs
  have hu63 : u < 9223372036854775808 := by omega
  have hP := dec_parse u hu63
  have hL := dec_len u hu63
  obtain ⟨t, ht⟩ : ∃ t : ByteArray, t = ⟨(Lib.decDigits u).toArray⟩ := ⟨_, rfl⟩
  have htl : t.data.toList = Lib.decDigits u := by rw [ht]
  have hts : t.size ≤ 2147483647 := by rw [ht]; show (Lib.decDigits u).toArray.size ≤ _; simp; omega
  rw [← htl] at hP
  have D1 := aside (fun w h => digits_any n u hu hn w h)
  have D2 := aside (fun w => refDigits_int n u hu hn w)
  rw [← ht] at D1 D2
  have HP := aside hP
  have HTS := aside hts
  have hmax : (max n 0 : Int) = (u : Int) := hu.symm
  clear hu hn hv hev htab hs hL ht htl hP hts hu63
  go_enter Tryd.func3, Tryd.ntmps3
  go_wp2_with fail
  refine (D1.out _ HT.out).mono ?_
  rintro e w1 ⟨rfl, b1⟩
  go_wp2_with fail
  refine (parse_any s most HS.out ev _ ((b1.cell (p := ⟨1, 0, none⟩) hlt).trans HV.out) HE.out).mono ?_
  rintro e w2 ⟨rfl, b2'⟩
  have b2 : Below w.heap.size w w2 := b1.trans (b2'.mono b1.size)
  clear b2' b1
  go_wp2_with fail
  refine (refParse_any s most HS.out _).mono ?_
  rintro e w3 ⟨rfl, b3'⟩
  have b3 : Below w.heap.size w w3 := b2.trans (b3'.mono b2.size)
  clear b3' b2
  generalize parseP s.data.toList most = pr at *
  obtain ⟨p1, p2⟩ := pr
  go_wp2_with fail
  refine (D2.out _).mono ?_
  rintro e w4 ⟨rfl, b4'⟩
  have b4 : Below w.heap.size w w4 := b3.trans (b4'.mono b3.size)
  clear b4' b3
  go_wp2_with fail
  refine (parse_any t 9223372036854775807 HTS.out ev _ ((b4.cell (p := ⟨1, 0, none⟩) hlt).trans HV.out) HE.out).mono ?_
  rintro e w5 ⟨rfl, b5'⟩
  have b5 : Below w.heap.size w w5 := b4.trans (b5'.mono b4.size)
  rw [HP.out]
  clear b5' b4
  go_wp2
  go_ret
  exact ⟨rfl, b5⟩

set_option maxHeartbeats 400000 in
theorem digits_long (n : Int) (s : ByteArray) (most : Int) (hs : ¬ s.size ≤ 2147483647) (w : World) :
    Calls Tryd.prog 3 #[.int .i64 n, .string s, .int .i64 most] w fun e w' => e = .returned (.bool true) ∧ Below w.heap.size w w' := by
  have hs' : (2147483647 : Int) < (s.size : Int) := by omega
  go_enter Tryd.func3, Tryd.ntmps3
  go_wp2
  go_ret
  exact ⟨rfl, Below.refl _ _⟩

end Go.Proofs.YtccbmppmnddkpaaDoor

/-
  The law CutsBorders, walked.
-/
import Derived.Test.YtagcenfjdjaaaaaCuSame
namespace Go.Proofs.Ytagcenfjdjaaaaa
open Go.RowKit
set_option linter.unusedVariables false

set_option maxHeartbeats 6400000 in
set_option maxRecDepth 100000 in
theorem cborders_key (a : Option Addr) (n cap : Nat) (S : Nat → ByteArray) (p : Int) (w : World) (h : StrsIn w.heap.size w a n cap S) (hsz : n * 16 ≤ 140737488351232) (hf : (a = none ∧ n = 0 ∧ cap = 0) ∨ ∃ x, a = some x) (c : Int) (hc : keyE S n = c) (hc0 : ¬ c = 0) :
    Calls Try.prog 5 #[.slice a n cap, .int .i64 p] w fun e w' => e = .returned (.bool true) ∧ Below w.heap.size w w' := by
  have HS := aside h
  have HF := aside hf
  clear h hf
  go_enter Try.func5, Try.ntmps5
  go_wp2_with fail
  refine (beyond_any a n cap S ⟨#[]⟩ ⟨#[]⟩ false w HS.out).mono ?_
  rintro e w1 ⟨⟨bb, rfl, hbb⟩, b1⟩
  have B1 := aside b1
  clear b1
  cases bb
  · have hn30 := hbb rfl
    clear hbb
    have S1 := aside (HS.out.up B1.out B1.out.size)
    have O0 : Hid ((w1.alloc (.cells #[] 9)).ownsRow w1.heap.size 9 1 (.slice (some ⟨w1.heap.size, 0, none⟩) 0 0) 0 (strCells [])) := aside (World.ownsRow_made w1 #[] 0 (Nat.le_refl _) (Nat.zero_le _) rfl)
    have S2 := aside (S1.out.up (bnew w1 (.cells #[] 9)) (bnew w1 (.cells #[] 9)).size)
    have hlc := HS.out.1
    go_wp2_with (at_builtin; refine append_strs rfl _ _ rfl w1.heap.size (.slice (some ⟨w1.heap.size, 0, none⟩) 0 0) 0 [] (by rfl) O0.out a n cap S (by rfl) S2.out HF.out (by omega) (by simp) ?_; intro a3 c3 w3 own3 b3; refine Hid.out ?_)
    refine aside ?_
    rw [List.nil_append, Nat.zero_add] at own3
    have B3 := aside (show Below w.heap.size w w3 from B1.out.trans (((bnew w1 (.cells #[] 9)).trans b3).mono B1.out.size))
    have I3 := aside (strs_copy own3 (by omega))
    have S3 := aside (HS.out.up B3.out B3.out.size)
    clear own3 b3 O0 S1 S2
    go_wp2_with fail
    refine (borders_key a3 n c3 p c S _ I3.out hc hc0).mono ?_
    rintro e w4 ⟨rfl, b4⟩
    have B4 := aside (bthen B3.out b4)
    have I4 := aside (I3.out.up b4 b4.size)
    clear b4 I3 S3
    go_wp2_with fail
    refine (rborders_key a n cap p c S _ (HS.out.up B4.out B4.out.size) hc hc0).mono ?_
    rintro e w5 ⟨rfl, b5⟩
    have B5 := aside (bthen B4.out b5)
    have I5 := aside (I4.out.up b5 b5.size)
    clear b5 I4
    go_wp2_with fail
    refine (sameTexts_any none none 0 0 0 (fun _ => ByteArray.empty) _ ⟨Nat.le_refl _, by omega, .inl rfl⟩ ⟨Nat.le_refl _, by omega, .inl rfl⟩).mono ?_
    rintro e w6 ⟨rfl, b6⟩
    have B6 := aside (bthen B5.out b6)
    have I6 := aside (I5.out.up b6 b6.size)
    clear b6 I5
    go_wp2_with fail
    refine (sameTexts_any a3 a n c3 cap S _ I6.out (HS.out.up B6.out B6.out.size)).mono ?_
    rintro e w7 ⟨rfl, b7⟩
    have B7 := aside (bthen B6.out b7)
    have I7 := aside (I6.out.up b7 b7.size)
    clear b7 I6
    go_wp2
    go_loopw [10] (fun i wr => i = .int .i64 0 ∧ Below w7.heap.size w7 wr) (fun _ _ => 0)
    case atStart => exact ⟨rfl, Below.refl _ _⟩
    case round =>
      obtain ⟨rfl, hnx⟩ := hrel
      have HX := aside hnx
      clear hnx
      go_wp2_with fail
      refine (sameTexts_any a3 a n c3 cap S _ (I7.out.up HX.out HX.out.size) (HS.out.up (bthen B7.out HX.out) (bthen B7.out HX.out).size)).mono ?_
      rintro e w8 ⟨rfl, b8⟩
      go_wp2
      go_ret
      exact ⟨rfl, bthen (bthen B7.out HX.out) b8⟩
  · go_wp2
    go_ret
    exact ⟨rfl, B1.out⟩

set_option maxHeartbeats 6400000 in
set_option maxRecDepth 100000 in
theorem cborders_arg (a : Option Addr) (n cap : Nat) (S : Nat → ByteArray) (p : Int) (w : World) (h : StrsIn w.heap.size w a n cap S) (hsz : n * 16 ≤ 140737488351232) (hf : (a = none ∧ n = 0 ∧ cap = 0) ∨ ∃ x, a = some x) (hc : keyE S n = 0) (hb : ¬ (1 ≤ (n : Int) ∧ (n : Int) ≤ 256 ∧ 1 ≤ p ∧ p ≤ (n : Int))) :
    Calls Try.prog 5 #[.slice a n cap, .int .i64 p] w fun e w' => e = .returned (.bool true) ∧ Below w.heap.size w w' := by
  have HS := aside h
  have HF := aside hf
  clear h hf
  go_enter Try.func5, Try.ntmps5
  go_wp2_with fail
  refine (beyond_any a n cap S ⟨#[]⟩ ⟨#[]⟩ false w HS.out).mono ?_
  rintro e w1 ⟨⟨bb, rfl, hbb⟩, b1⟩
  have B1 := aside b1
  clear b1
  cases bb
  · have hn30 := hbb rfl
    clear hbb
    have S1 := aside (HS.out.up B1.out B1.out.size)
    have O0 : Hid ((w1.alloc (.cells #[] 9)).ownsRow w1.heap.size 9 1 (.slice (some ⟨w1.heap.size, 0, none⟩) 0 0) 0 (strCells [])) := aside (World.ownsRow_made w1 #[] 0 (Nat.le_refl _) (Nat.zero_le _) rfl)
    have S2 := aside (S1.out.up (bnew w1 (.cells #[] 9)) (bnew w1 (.cells #[] 9)).size)
    have hlc := HS.out.1
    go_wp2_with (at_builtin; refine append_strs rfl _ _ rfl w1.heap.size (.slice (some ⟨w1.heap.size, 0, none⟩) 0 0) 0 [] (by rfl) O0.out a n cap S (by rfl) S2.out HF.out (by omega) (by simp) ?_; intro a3 c3 w3 own3 b3; refine Hid.out ?_)
    refine aside ?_
    rw [List.nil_append, Nat.zero_add] at own3
    have B3 := aside (show Below w.heap.size w w3 from B1.out.trans (((bnew w1 (.cells #[] 9)).trans b3).mono B1.out.size))
    have I3 := aside (strs_copy own3 (by omega))
    have S3 := aside (HS.out.up B3.out B3.out.size)
    clear own3 b3 O0 S1 S2
    go_wp2_with fail
    refine (borders_arg a3 n c3 p S _ I3.out hc hb).mono ?_
    rintro e w4 ⟨rfl, b4⟩
    have B4 := aside (bthen B3.out b4)
    have I4 := aside (I3.out.up b4 b4.size)
    clear b4 I3 S3
    go_wp2_with fail
    refine (rborders_arg a n cap p S _ (HS.out.up B4.out B4.out.size) hc hb).mono ?_
    rintro e w5 ⟨rfl, b5⟩
    have B5 := aside (bthen B4.out b5)
    have I5 := aside (I4.out.up b5 b5.size)
    clear b5 I4
    go_wp2_with fail
    refine (sameTexts_any none none 0 0 0 (fun _ => ByteArray.empty) _ ⟨Nat.le_refl _, by omega, .inl rfl⟩ ⟨Nat.le_refl _, by omega, .inl rfl⟩).mono ?_
    rintro e w6 ⟨rfl, b6⟩
    have B6 := aside (bthen B5.out b6)
    have I6 := aside (I5.out.up b6 b6.size)
    clear b6 I5
    go_wp2_with fail
    refine (sameTexts_any a3 a n c3 cap S _ I6.out (HS.out.up B6.out B6.out.size)).mono ?_
    rintro e w7 ⟨rfl, b7⟩
    have B7 := aside (bthen B6.out b7)
    have I7 := aside (I6.out.up b7 b7.size)
    clear b7 I6
    go_wp2
    go_loopw [10] (fun i wr => i = .int .i64 0 ∧ Below w7.heap.size w7 wr) (fun _ _ => 0)
    case atStart => exact ⟨rfl, Below.refl _ _⟩
    case round =>
      obtain ⟨rfl, hnx⟩ := hrel
      have HX := aside hnx
      clear hnx
      go_wp2_with fail
      refine (sameTexts_any a3 a n c3 cap S _ (I7.out.up HX.out HX.out.size) (HS.out.up (bthen B7.out HX.out) (bthen B7.out HX.out).size)).mono ?_
      rintro e w8 ⟨rfl, b8⟩
      go_wp2
      go_ret
      exact ⟨rfl, bthen (bthen B7.out HX.out) b8⟩
  · go_wp2
    go_ret
    exact ⟨rfl, B1.out⟩

set_option maxHeartbeats 6400000 in
set_option maxRecDepth 100000 in
theorem cborders_ok (a : Option Addr) (n cap q : Nat) (S : Nat → ByteArray) (w : World) (h : StrsIn w.heap.size w a n cap S) (hsz : n * 16 ≤ 140737488351232) (hf : (a = none ∧ n = 0 ∧ cap = 0) ∨ ∃ x, a = some x) (hc : keyE S n = 0) (hqn : q + 1 ≤ n) (hn : n ≤ 256) :
    Calls Try.prog 5 #[.slice a n cap, .int .i64 ((q : Int) + 1)] w fun e w' => e = .returned (.bool true) ∧ Below w.heap.size w w' := by
  have HS := aside h
  have HF := aside hf
  clear h hf
  go_enter Try.func5, Try.ntmps5
  go_wp2_with fail
  refine (beyond_any a n cap S ⟨#[]⟩ ⟨#[]⟩ false w HS.out).mono ?_
  rintro e w1 ⟨⟨bb, rfl, hbb⟩, b1⟩
  have B1 := aside b1
  clear b1
  cases bb
  · have hn30 := hbb rfl
    clear hbb
    have S1 := aside (HS.out.up B1.out B1.out.size)
    have O0 : Hid ((w1.alloc (.cells #[] 9)).ownsRow w1.heap.size 9 1 (.slice (some ⟨w1.heap.size, 0, none⟩) 0 0) 0 (strCells [])) := aside (World.ownsRow_made w1 #[] 0 (Nat.le_refl _) (Nat.zero_le _) rfl)
    have S2 := aside (S1.out.up (bnew w1 (.cells #[] 9)) (bnew w1 (.cells #[] 9)).size)
    have hlc := HS.out.1
    go_wp2_with (at_builtin; refine append_strs rfl _ _ rfl w1.heap.size (.slice (some ⟨w1.heap.size, 0, none⟩) 0 0) 0 [] (by rfl) O0.out a n cap S (by rfl) S2.out HF.out (by omega) (by simp) ?_; intro a3 c3 w3 own3 b3; refine Hid.out ?_)
    refine aside ?_
    rw [List.nil_append, Nat.zero_add] at own3
    have B3 := aside (show Below w.heap.size w w3 from B1.out.trans (((bnew w1 (.cells #[] 9)).trans b3).mono B1.out.size))
    have I3 := aside (strs_copy own3 (by omega))
    have S3 := aside (HS.out.up B3.out B3.out.size)
    clear own3 b3 O0 S1 S2
    go_wp2_with fail
    refine (borders_ok a3 n c3 q S _ I3.out hc hqn hn).mono ?_
    rintro e w4 ⟨g4, c4, rfl, o4, l4, b4⟩
    have B4 := aside (bthen B3.out b4)
    have R4 := aside b4
    have J4 := aside (strs_own o4 (by omega))
    have G4 := aside (o4.lt g4 rfl)
    have E4 := aside (show ∃ cur, w4.heap[g4]? = some (.cells cur 9 (0, 0)) ∧ q ≤ cur.size from by
      rcases o4.2 with ⟨h1, -⟩ | ⟨g', cap', cur, h1, -, h3, h2, -, h5, -⟩
      · cases h1
      · cases h1; exact ⟨cur, h3, by rw [h5]; omega⟩)
    have hq4 := J4.out.1
    clear b4 o4 l4 S3
    go_wp2_with fail
    refine (rborders_ok a n cap q S _ (HS.out.up B4.out B4.out.size) hc hqn hn).mono ?_
    rintro e w5 ⟨g5, c5, rfl, o5, l5, b5⟩
    have B5 := aside (bthen B4.out b5)
    have R5 := aside (bthen R4.out b5)
    have J5 := aside (J4.out.up b5 b5.size)
    have K5 := aside (strs_own o5 (by omega))
    have E5 := aside (show ∃ cur, w5.heap[g4]? = some (.cells cur 9 (0, 0)) ∧ q ≤ cur.size from by obtain ⟨cur, h1, h2⟩ := E4.out; exact ⟨cur, keep h1 b5, h2⟩)
    clear b5 o5 l5 J4 E4 B4 R4
    go_wp2_with fail
    refine (sameTexts_any (some ⟨g4, 0, none⟩) (some ⟨g5, 0, none⟩) q c4 c5 _ _ J5.out K5.out).mono ?_
    rintro e w6 ⟨rfl, b6⟩
    have B6 := aside (bthen B5.out b6)
    have R6 := aside (bthen R5.out b6)
    have E6 := aside (show ∃ cur, w6.heap[g4]? = some (.cells cur 9 (0, 0)) ∧ q ≤ cur.size from by obtain ⟨cur, h1, h2⟩ := E5.out; exact ⟨cur, keep h1 b6, h2⟩)
    clear b6 J5 K5 E5 B5 R5
    go_wp2_with fail
    refine (sameTexts_any a3 a n c3 cap S _ (I3.out.up R6.out R6.out.size) (HS.out.up B6.out B6.out.size)).mono ?_
    rintro e w7 ⟨rfl, b7⟩
    have B7 := aside (bthen B6.out b7)
    have R7 := aside (bthen R6.out b7)
    have E7 := aside (show ∃ cur, w7.heap[g4]? = some (.cells cur 9 (0, 0)) ∧ q ≤ cur.size from by obtain ⟨cur, h1, h2⟩ := E6.out; exact ⟨cur, keep h1 b7, h2⟩)
    clear b7 E6 B6 R6
    go_wp2
    go_loopw [10] (fun i wr => ∃ k : Nat, k ≤ q ∧ i = .int .i64 (k : Int) ∧ Below w3.heap.size w3 wr ∧ ∃ cur, wr.heap[g4]? = some (.cells cur 9 (0, 0)) ∧ q ≤ cur.size) (fun i _ => q - (intOf i).toNat)
    case atStart => exact ⟨0, Nat.zero_le _, rfl, R7.out, E7.out⟩
    case round =>
      obtain ⟨k, hk, rfl, hnx, cur, hg, hcs⟩ := hrel
      have HX := aside hnx
      clear hnx
      by_cases hlt : (k : Int) < (q : Int)
      · have hk0 : (0 : Int) ≤ (k : Int) := by omega
        have hqw : IntKind.i64.wrap ((k : Int) + 1) = (k : Int) + 1 := by rw [IntKind.wrap_i64]; omega
        obtain ⟨u, hu⟩ : ∃ u, wr.cell? ⟨g4, k, none⟩ = some u := ⟨cur[k]'(by omega), by simp [World.cell?, hg, show k < cur.size from by omega]⟩
        have hfz : wr.frozen? ⟨g4, k, none⟩ = false := by simp [World.frozen?, hg]
        have HG := aside (heap_set1 k (.string ⟨#[116, 117, 114, 110, 101, 100]⟩) hg)
        have HC := aside hcs
        clear hg hcs
        go_wp2
        go_roundw
        case rel => exact ⟨k + 1, by omega, by go_num, HX.out.setCell (p := ⟨g4, k, none⟩) G4.out.1 _, _, HG.out, by rw [Array.size_setIfInBounds]; exact HC.out⟩
        case measure => simp [intOf]; omega
      · clear hg hcs
        have B8 := aside (B3.out.trans (HX.out.mono B3.out.size))
        go_wp2_with fail
        refine (sameTexts_any a3 a n c3 cap S _ (I3.out.up HX.out HX.out.size) (HS.out.up B8.out B8.out.size)).mono ?_
        rintro e w9 ⟨rfl, b9⟩
        go_wp2
        go_ret
        exact ⟨rfl, bthen B8.out b9⟩
  · go_wp2
    go_ret
    exact ⟨rfl, B1.out⟩

theorem cborders_walk (a : Option Addr) (n cap : Nat) (S : Nat → ByteArray) (p : Int) (w : World) (hp : -9223372036854775808 ≤ p ∧ p ≤ 9223372036854775807) (h : StrsIn w.heap.size w a n cap S) (hsz : n * 16 ≤ 140737488351232) (hf : (a = none ∧ n = 0 ∧ cap = 0) ∨ ∃ x, a = some x) :
    Calls Try.prog 5 #[.slice a n cap, .int .i64 p] w fun e w' => e = .returned (.bool true) ∧ Below w.heap.size w w' := by
  by_cases hc : keyE S n = 0
  · by_cases hb : 1 ≤ (n : Int) ∧ (n : Int) ≤ 256 ∧ 1 ≤ p ∧ p ≤ (n : Int)
    · have := cborders_ok a n cap (p - 1).toNat S w h hsz hf hc (by omega) (by omega)
      rw [show (((p - 1).toNat : Nat) : Int) + 1 = p from by omega] at this
      exact this
    · exact cborders_arg a n cap S p w h hsz hf hc hb
  · exact cborders_key a n cap S p w h hsz hf _ rfl hc

end Go.Proofs.Ytagcenfjdjaaaaa

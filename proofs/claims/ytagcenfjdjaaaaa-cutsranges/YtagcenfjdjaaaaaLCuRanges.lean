/-
  The law CutsRanges, walked.
-/
import Derived.Test.YtagcenfjdjaaaaaCuRngR
import Derived.Test.YtagcenfjdjaaaaaCuSame
import Derived.Laws.StructEq
namespace Go.Proofs.Ytagcenfjdjaaaaa
open Go.RowKit
set_option linter.unusedVariables false

set_option maxRecDepth 100000 in
set_option maxHeartbeats 2000000 in
theorem sameRanges_any (a a' : Option Addr) (len cap cap' : Nat) (T : Nat → Rg) (w : World) (h : RgsIn w.heap.size w a len cap T) (h' : RgsIn w.heap.size w a' len cap' T) :
    Calls Try.prog 21 #[.slice a len cap, .slice a' len cap'] w fun e w' => e = .returned (.bool true) ∧ Below w.heap.size w w' := by
  obtain ⟨hlc, hcm, hh⟩ := h
  obtain ⟨hlc', -, hh'⟩ := h'
  go_enter Try.func21, Try.ntmps21
  go_wp2
  go_loopw [5] (fun i wr => ∃ k : Nat, k ≤ len ∧ i = .int .i64 (k : Int) ∧ Below w.heap.size w wr) (fun i _ => len - (intOf i).toNat)
  case atStart => exact ⟨0, Nat.zero_le _, rfl, Below.refl _ _⟩
  case round =>
    obtain ⟨k, hk, rfl, hnx⟩ := hrel
    by_cases hlt : (k : Int) < (len : Int)
    · rcases hh with hh | ⟨b, off, rfl, hb, hc⟩
      · omega
      · rcases hh' with hh' | ⟨b', off', rfl, hb', hc'⟩
        · omega
        · obtain ⟨c0, c1, c2⟩ := hc k (by omega)
          obtain ⟨d0, d1, d2⟩ := hc' k (by omega)
          have c0' := (hnx.cell (p := ⟨b, off + k * 3, none⟩) hb).trans c0
          have c1' := (hnx.cell (p := ⟨b, off + k * 3 + 1, none⟩) hb).trans c1
          have c2' := (hnx.cell (p := ⟨b, off + k * 3 + 2, none⟩) hb).trans c2
          have d0' := (hnx.cell (p := ⟨b', off' + k * 3, none⟩) hb').trans d0
          have d1' := (hnx.cell (p := ⟨b', off' + k * 3 + 1, none⟩) hb').trans d1
          have d2' := (hnx.cell (p := ⟨b', off' + k * 3 + 2, none⟩) hb').trans d2
          have hk0 : (0 : Int) ≤ (k : Int) := by omega
          clear hc hc' c0 c1 c2 d0 d1 d2
          go_wp2_with fail
          go_region
          all_goals
            go_wp2
            go_roundw
            case rel => exact ⟨k + 1, by omega, by go_num, hnx.drew⟩
            case measure => simp [intOf]; omega
    · obtain rfl : len = k := by omega
      go_wp2
      go_ret
      exact ⟨rfl, hnx⟩

theorem rgs_nil (w : World) : RgsIn w.heap.size w none 0 0 (fun _ => ⟨ByteArray.empty, ByteArray.empty, false⟩) := ⟨Nat.le_refl _, by omega, .inl rfl⟩

set_option maxHeartbeats 6400000 in
set_option maxRecDepth 100000 in
theorem cranges_chk (lo hi : ByteArray) (op : Bool) (a : Option Addr) (n cap : Nat) (S : Nat → ByteArray) (p : Int) (w : World) (h : StrsIn w.heap.size w a n cap S) (c : Int) (hch : Rg.chk ⟨lo, hi, op⟩ = c) (hc0 : ¬ c = 0) :
    Calls Try.prog 6 #[.agg #[.string lo, .string hi, .bool op], .slice a n cap, .int .i64 p] w fun e w' => e = .returned (.bool true) ∧ Below w.heap.size w w' := by
  have HS := aside h
  clear h
  have S0 := aside (HS.out.up (bnew w (.cells #[.string lo, .string hi, .bool op] 23)) (bnew w (.cells #[.string lo, .string hi, .bool op] 23)).size)
  go_enter Try.func6, Try.ntmps6
  go_wp2_with fail
  refine (beyond_any a n cap S lo hi op _ S0.out).mono ?_
  rintro e w1 ⟨⟨bb, rfl, hbb⟩, b1⟩
  have X1 := aside b1
  clear b1
  obtain ⟨hbx, hnx⟩ := box_after X1.out
  obtain ⟨⟨q0, q1, q2⟩, -⟩ := box_out hbx
  have B1 := aside hnx
  clear hbx hnx S0
  cases bb
  · clear hbb
    go_wp2_with fail
    refine (ranges_chk lo hi op a n cap S p _ (HS.out.up B1.out B1.out.size) c hch hc0).mono ?_
    rintro e w2 ⟨rfl, b2⟩
    have X2 := aside (X1.out.trans (b2.mono X1.out.size))
    obtain ⟨hbx, hnx⟩ := box_after X2.out
    clear q0 q1 q2 b2
    obtain ⟨⟨q0, q1, q2⟩, -⟩ := box_out hbx
    have B2 := aside hnx
    clear hbx hnx
    go_wp2_with fail
    refine (rranges_chk lo hi op a n cap S p _ (HS.out.up B2.out B2.out.size) c hch hc0).mono ?_
    rintro e w3 ⟨rfl, b3⟩
    have X3 := aside (X2.out.trans (b3.mono X2.out.size))
    obtain ⟨hbx, hnx⟩ := box_after X3.out
    clear q0 q1 q2 b3
    obtain ⟨⟨q0, q1, q2⟩, -⟩ := box_out hbx
    have B3 := aside hnx
    clear hbx hnx
    go_wp2_with fail
    refine (sameRanges_any none none 0 0 0 _ _ (rgs_nil _) (rgs_nil _)).mono ?_
    rintro e w4 ⟨rfl, b4⟩
    clear q0 q1 q2
    go_wp2
    go_ret
    exact ⟨rfl, bthen B3.out b4⟩
  · clear q0 q1 q2
    go_wp2
    go_ret
    exact ⟨rfl, B1.out⟩

set_option maxHeartbeats 6400000 in
set_option maxRecDepth 100000 in
theorem cranges_key (lo hi : ByteArray) (op : Bool) (a : Option Addr) (n cap : Nat) (S : Nat → ByteArray) (p : Int) (w : World) (h : StrsIn w.heap.size w a n cap S) (c : Int) (hch : Rg.chk ⟨lo, hi, op⟩ = 0) (hke : keyE S n = c) (hc0 : ¬ c = 0) :
    Calls Try.prog 6 #[.agg #[.string lo, .string hi, .bool op], .slice a n cap, .int .i64 p] w fun e w' => e = .returned (.bool true) ∧ Below w.heap.size w w' := by
  have HS := aside h
  clear h
  have S0 := aside (HS.out.up (bnew w (.cells #[.string lo, .string hi, .bool op] 23)) (bnew w (.cells #[.string lo, .string hi, .bool op] 23)).size)
  go_enter Try.func6, Try.ntmps6
  go_wp2_with fail
  refine (beyond_any a n cap S lo hi op _ S0.out).mono ?_
  rintro e w1 ⟨⟨bb, rfl, hbb⟩, b1⟩
  have X1 := aside b1
  clear b1
  obtain ⟨hbx, hnx⟩ := box_after X1.out
  obtain ⟨⟨q0, q1, q2⟩, -⟩ := box_out hbx
  have B1 := aside hnx
  clear hbx hnx S0
  cases bb
  · clear hbb
    go_wp2_with fail
    refine (ranges_key lo hi op a n cap S p _ (HS.out.up B1.out B1.out.size) c hch hke hc0).mono ?_
    rintro e w2 ⟨rfl, b2⟩
    have X2 := aside (X1.out.trans (b2.mono X1.out.size))
    obtain ⟨hbx, hnx⟩ := box_after X2.out
    clear q0 q1 q2 b2
    obtain ⟨⟨q0, q1, q2⟩, -⟩ := box_out hbx
    have B2 := aside hnx
    clear hbx hnx
    go_wp2_with fail
    refine (rranges_key lo hi op a n cap S p _ (HS.out.up B2.out B2.out.size) c hch hke hc0).mono ?_
    rintro e w3 ⟨rfl, b3⟩
    have X3 := aside (X2.out.trans (b3.mono X2.out.size))
    obtain ⟨hbx, hnx⟩ := box_after X3.out
    clear q0 q1 q2 b3
    obtain ⟨⟨q0, q1, q2⟩, -⟩ := box_out hbx
    have B3 := aside hnx
    clear hbx hnx
    go_wp2_with fail
    refine (sameRanges_any none none 0 0 0 _ _ (rgs_nil _) (rgs_nil _)).mono ?_
    rintro e w4 ⟨rfl, b4⟩
    clear q0 q1 q2
    go_wp2
    go_ret
    exact ⟨rfl, bthen B3.out b4⟩
  · clear q0 q1 q2
    go_wp2
    go_ret
    exact ⟨rfl, B1.out⟩

set_option maxHeartbeats 6400000 in
set_option maxRecDepth 100000 in
theorem cranges_not (lo hi : ByteArray) (op : Bool) (a : Option Addr) (n cap : Nat) (S : Nat → ByteArray) (p : Int) (w : World) (h : StrsIn w.heap.size w a n cap S) (hch : Rg.chk ⟨lo, hi, op⟩ = 0) (hke : keyE S n = 0) (hal : allK ⟨lo, hi, op⟩ S n = false) :
    Calls Try.prog 6 #[.agg #[.string lo, .string hi, .bool op], .slice a n cap, .int .i64 p] w fun e w' => e = .returned (.bool true) ∧ Below w.heap.size w w' := by
  have HS := aside h
  clear h
  have S0 := aside (HS.out.up (bnew w (.cells #[.string lo, .string hi, .bool op] 23)) (bnew w (.cells #[.string lo, .string hi, .bool op] 23)).size)
  go_enter Try.func6, Try.ntmps6
  go_wp2_with fail
  refine (beyond_any a n cap S lo hi op _ S0.out).mono ?_
  rintro e w1 ⟨⟨bb, rfl, hbb⟩, b1⟩
  have X1 := aside b1
  clear b1
  obtain ⟨hbx, hnx⟩ := box_after X1.out
  obtain ⟨⟨q0, q1, q2⟩, -⟩ := box_out hbx
  have B1 := aside hnx
  clear hbx hnx S0
  cases bb
  · clear hbb
    go_wp2_with fail
    refine (ranges_not lo hi op a n cap S p _ (HS.out.up B1.out B1.out.size) hch hke hal).mono ?_
    rintro e w2 ⟨rfl, b2⟩
    have X2 := aside (X1.out.trans (b2.mono X1.out.size))
    obtain ⟨hbx, hnx⟩ := box_after X2.out
    clear q0 q1 q2 b2
    obtain ⟨⟨q0, q1, q2⟩, -⟩ := box_out hbx
    have B2 := aside hnx
    clear hbx hnx
    go_wp2_with fail
    refine (rranges_not lo hi op a n cap S p _ (HS.out.up B2.out B2.out.size) hch hke hal).mono ?_
    rintro e w3 ⟨rfl, b3⟩
    have X3 := aside (X2.out.trans (b3.mono X2.out.size))
    obtain ⟨hbx, hnx⟩ := box_after X3.out
    clear q0 q1 q2 b3
    obtain ⟨⟨q0, q1, q2⟩, -⟩ := box_out hbx
    have B3 := aside hnx
    clear hbx hnx
    go_wp2_with fail
    refine (sameRanges_any none none 0 0 0 _ _ (rgs_nil _) (rgs_nil _)).mono ?_
    rintro e w4 ⟨rfl, b4⟩
    clear q0 q1 q2
    go_wp2
    go_ret
    exact ⟨rfl, bthen B3.out b4⟩
  · clear q0 q1 q2
    go_wp2
    go_ret
    exact ⟨rfl, B1.out⟩

set_option maxHeartbeats 6400000 in
set_option maxRecDepth 100000 in
theorem cranges_arg (lo hi : ByteArray) (op : Bool) (a : Option Addr) (n cap : Nat) (S : Nat → ByteArray) (p : Int) (w : World) (h : StrsIn w.heap.size w a n cap S) (hch : Rg.chk ⟨lo, hi, op⟩ = 0) (hke : keyE S n = 0) (hal : allK ⟨lo, hi, op⟩ S n = true) (hb : ¬ (1 ≤ (n : Int) ∧ (n : Int) ≤ 256 ∧ 1 ≤ p ∧ p ≤ (n : Int))) :
    Calls Try.prog 6 #[.agg #[.string lo, .string hi, .bool op], .slice a n cap, .int .i64 p] w fun e w' => e = .returned (.bool true) ∧ Below w.heap.size w w' := by
  have HS := aside h
  clear h
  have S0 := aside (HS.out.up (bnew w (.cells #[.string lo, .string hi, .bool op] 23)) (bnew w (.cells #[.string lo, .string hi, .bool op] 23)).size)
  go_enter Try.func6, Try.ntmps6
  go_wp2_with fail
  refine (beyond_any a n cap S lo hi op _ S0.out).mono ?_
  rintro e w1 ⟨⟨bb, rfl, hbb⟩, b1⟩
  have X1 := aside b1
  clear b1
  obtain ⟨hbx, hnx⟩ := box_after X1.out
  obtain ⟨⟨q0, q1, q2⟩, -⟩ := box_out hbx
  have B1 := aside hnx
  clear hbx hnx S0
  cases bb
  · clear hbb
    go_wp2_with fail
    refine (ranges_arg lo hi op a n cap S p _ (HS.out.up B1.out B1.out.size) hch hke hal hb).mono ?_
    rintro e w2 ⟨rfl, b2⟩
    have X2 := aside (X1.out.trans (b2.mono X1.out.size))
    obtain ⟨hbx, hnx⟩ := box_after X2.out
    clear q0 q1 q2 b2
    obtain ⟨⟨q0, q1, q2⟩, -⟩ := box_out hbx
    have B2 := aside hnx
    clear hbx hnx
    go_wp2_with fail
    refine (rranges_arg lo hi op a n cap S p _ (HS.out.up B2.out B2.out.size) hch hke hal hb).mono ?_
    rintro e w3 ⟨rfl, b3⟩
    have X3 := aside (X2.out.trans (b3.mono X2.out.size))
    obtain ⟨hbx, hnx⟩ := box_after X3.out
    clear q0 q1 q2 b3
    obtain ⟨⟨q0, q1, q2⟩, -⟩ := box_out hbx
    have B3 := aside hnx
    clear hbx hnx
    go_wp2_with fail
    refine (sameRanges_any none none 0 0 0 _ _ (rgs_nil _) (rgs_nil _)).mono ?_
    rintro e w4 ⟨rfl, b4⟩
    clear q0 q1 q2
    go_wp2
    go_ret
    exact ⟨rfl, bthen B3.out b4⟩
  · clear q0 q1 q2
    go_wp2
    go_ret
    exact ⟨rfl, B1.out⟩

set_option maxHeartbeats 6400000 in
set_option maxRecDepth 100000 in
theorem cranges_ok (lo hi : ByteArray) (op : Bool) (a : Option Addr) (n cap : Nat) (S : Nat → ByteArray) (q : Nat) (w : World) (h : StrsIn w.heap.size w a n cap S) (hch : Rg.chk ⟨lo, hi, op⟩ = 0) (hke : keyE S n = 0) (hal : allK ⟨lo, hi, op⟩ S n = true) (hqn : q + 1 ≤ n) (hn : n ≤ 256) :
    Calls Try.prog 6 #[.agg #[.string lo, .string hi, .bool op], .slice a n cap, .int .i64 ((q : Int) + 1)] w fun e w' => e = .returned (.bool true) ∧ Below w.heap.size w w' := by
  have HS := aside h
  clear h
  have S0 := aside (HS.out.up (bnew w (.cells #[.string lo, .string hi, .bool op] 23)) (bnew w (.cells #[.string lo, .string hi, .bool op] 23)).size)
  go_enter Try.func6, Try.ntmps6
  go_wp2_with fail
  refine (beyond_any a n cap S lo hi op _ S0.out).mono ?_
  rintro e w1 ⟨⟨bb, rfl, hbb⟩, b1⟩
  have X1 := aside b1
  clear b1
  obtain ⟨hbx, hnx⟩ := box_after X1.out
  obtain ⟨⟨q0, q1, q2⟩, -⟩ := box_out hbx
  have B1 := aside hnx
  clear hbx hnx S0
  cases bb
  · clear hbb
    go_wp2_with fail
    refine (ranges_ok lo hi op a n cap S q _ (HS.out.up B1.out B1.out.size) hch hke hal hqn hn).mono ?_
    rintro e w2 ⟨g2, c2, rfl, o2, l2, b2⟩
    have X2 := aside (X1.out.trans (b2.mono X1.out.size))
    obtain ⟨hbx, hnx⟩ := box_after X2.out
    have R2 := aside (rgs_of_row o2 l2 (by omega))
    clear o2
    clear q0 q1 q2 b2
    obtain ⟨⟨q0, q1, q2⟩, -⟩ := box_out hbx
    have B2 := aside hnx
    clear hbx hnx
    go_wp2_with fail
    refine (rranges_ok lo hi op a n cap S q _ (HS.out.up B2.out B2.out.size) hch hke hal hqn hn).mono ?_
    rintro e w3 ⟨g3, c3, rfl, o3, l3, b3⟩
    have X3 := aside (X2.out.trans (b3.mono X2.out.size))
    obtain ⟨hbx, hnx⟩ := box_after X3.out
    have R3 := aside (R2.out.up b3 b3.size)
    have P3 := aside (rgs_of_row o3 l3 (by omega))
    clear o3 R2
    clear q0 q1 q2 b3
    obtain ⟨⟨q0, q1, q2⟩, -⟩ := box_out hbx
    have B3 := aside hnx
    clear hbx hnx
    go_wp2_with fail
    refine (sameRanges_any (some ⟨g2, 0, none⟩) (some ⟨g3, 0, none⟩) (q + 1) c2 c3 _ _ R3.out P3.out).mono ?_
    rintro e w4 ⟨rfl, b4⟩
    clear q0 q1 q2
    go_wp2
    go_ret
    exact ⟨rfl, bthen B3.out b4⟩
  · clear q0 q1 q2
    go_wp2
    go_ret
    exact ⟨rfl, B1.out⟩

theorem cranges_walk (lo hi : ByteArray) (op : Bool) (a : Option Addr) (n cap : Nat) (S : Nat → ByteArray) (p : Int) (w : World) (hp : -9223372036854775808 ≤ p ∧ p ≤ 9223372036854775807) (h : StrsIn w.heap.size w a n cap S) (hsz : n * 16 ≤ 140737488351232) (hf : (a = none ∧ n = 0 ∧ cap = 0) ∨ ∃ x, a = some x) :
    Calls Try.prog 6 #[.agg #[.string lo, .string hi, .bool op], .slice a n cap, .int .i64 p] w fun e w' => e = .returned (.bool true) ∧ Below w.heap.size w w' := by
  by_cases hch : Rg.chk ⟨lo, hi, op⟩ = 0
  · by_cases hke : keyE S n = 0
    · cases hal : allK ⟨lo, hi, op⟩ S n
      · exact cranges_not lo hi op a n cap S p w h hch hke hal
      · by_cases hb : 1 ≤ (n : Int) ∧ (n : Int) ≤ 256 ∧ 1 ≤ p ∧ p ≤ (n : Int)
        · have := cranges_ok lo hi op a n cap S (p - 1).toNat w h hch hke hal (by omega) (by omega)
          rw [show (((p - 1).toNat : Nat) : Int) + 1 = p from by omega] at this
          exact this
        · exact cranges_arg lo hi op a n cap S p w h hch hke hal hb
    · exact cranges_key lo hi op a n cap S p w h _ hch rfl hke
  · exact cranges_chk lo hi op a n cap S p w h _ rfl hch

end Go.Proofs.Ytagcenfjdjaaaaa

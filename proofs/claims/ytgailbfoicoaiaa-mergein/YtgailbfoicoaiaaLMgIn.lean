/-
  The law MergeIn, walked.
-/
import Derived.Test.YtgailbfoicoaiaaMgSpo
import Derived.Test.YtgailbfoicoaiaaMgInL
namespace Go.Proofs.Ytgailbfoicoaiaa
open Go.RowKit
set_option linter.unusedVariables false

set_option maxHeartbeats 6400000 in
set_option maxRecDepth 100000 in
theorem lmin_walk (a : Option Addr) (la ca : Nat) (Ma : List En) (lo hi : ByteArray) (op : Bool) (w : World) (ha : Lst w a la ca Ma) (hform : (a = none ∧ la = 0 ∧ ca = 0) ∨ ∃ y, a = some y) :
    Calls Try.prog 8 #[.slice a la ca, .agg #[.string lo, .string hi, .bool op]] w fun e w' => e = .returned (.bool true) ∧ Below w.heap.size w w' := by
  have B0 := aside (bnew w (.cells #[.string lo, .string hi, .bool op] 54))
  have K1 := aside (heap_alloc_new w (.cells #[.string lo, .string hi, .bool op] 54))
  have La := aside (ha.keep B0.out)
  have HF := aside hform
  obtain ⟨q, hq⟩ : ∃ q, ckRL Ma ⟨lo, hi, op⟩ = q := ⟨_, rfl⟩
  have HCK := aside hq
  have CB := aside (beyond1 La.out)
  rw [World.size_alloc] at CB
  clear ha hform hq
  go_enter Try.func8, Try.ntmps8
  go_wp2_with fail
  refine CB.out.mono ?_
  rintro e w1 ⟨p, rfl, hp, b0⟩
  have b1 : Below (w.alloc (.cells #[.string lo, .string hi, .bool op] 54)).heap.size (w.alloc (.cells #[.string lo, .string hi, .bool op] 54)) w1 := by rw [World.size_alloc]; exact b0
  have BW := aside (bthen B0.out b1)
  replace La := aside (La.out.keep b1)
  replace K1 := aside (blk_on K1.out b1)
  obtain ⟨rb, hrb⟩ : ∃ rb, w.heap.size = rb := ⟨_, rfl⟩
  rw [hrb] at K1 ⊢
  have HP := aside hp
  clear b0 b1 hp CB B0 hrb
  cases p
  case true =>
    go_wp2
    go_ret
    exact ⟨rfl, BW.out⟩
  have HN := aside (show la ≤ 1073741824 from by have h1 := HP.out rfl; have h2 := La.out.len; omega)
  clear HP
  obtain ⟨r0, r1, r2⟩ := box3r K1.out
  go_wp2_with fail
  refine (longr_any lo hi op _).mono ?_
  rintro e w2 ⟨p, rfl, b2⟩
  replace BW := aside (bthen BW.out b2)
  replace La := aside (La.out.keep b2)
  replace K1 := aside (blk_on K1.out b2)
  clear b2 r0 r1 r2
  cases p
  case true =>
    go_wp2
    go_ret
    exact ⟨rfl, BW.out⟩
  go_wp2_with fail
  refine (copied_any a la ca Ma _ La.out HF.out HN.out).mono ?_
  rintro e w3 ⟨g, rfl, hc, b3⟩
  have CP := aside hc
  replace BW := aside (bthen BW.out b3)
  replace La := aside (La.out.keep b3)
  replace K1 := aside (blk_on K1.out b3)
  obtain ⟨r0, r1, r2⟩ := box3r K1.out
  clear hc b3
  go_wp2_with fail
  refine (minL (CP.out.lst La.out.keys) (by have := HN.out; omega) HCK.out).mono ?_
  rintro e w4 ⟨v, rfl, ho, b4⟩
  have O4 := aside ho
  have B4 := aside b4
  have La4 := aside (La.out.keep b4)
  replace K1 := aside (blk_on K1.out b4)
  clear ho b4 r0 r1 r2
  obtain ⟨x, cx, rfl, hx⟩ := Lst.of_row O4.out (keys_in La.out.keys q ⟨lo, hi, op⟩)
  have LX := aside hx
  obtain ⟨r0, r1, r2⟩ := box3r K1.out
  clear hx
  go_wp2_with fail
  refine (rinL La4.out (by have := HN.out; omega) HCK.out).mono ?_
  rintro e w5 ⟨v, rfl, ho, b5⟩
  obtain ⟨y, cy, rfl, hy⟩ := Lst.of_row ho (keys_in La.out.keys q ⟨lo, hi, op⟩)
  have LY := aside hy
  replace O4 := aside (own_on O4.out b5)
  replace LX := aside (LX.out.keep b5)
  replace B4 := aside (bthen B4.out b5)
  have hne : (q == q) = true := by simp
  clear hy ho b5 r0 r1 r2 K1 La4
  go_wp2_with fail
  refine (sameL LX.out LY.out rfl).mono ?_
  rintro e w6 ⟨rfl, b6⟩
  replace O4 := aside (own_on O4.out b6)
  replace B4 := aside (bthen B4.out b6)
  clear b6 LX LY
  go_wp2_with fail
  refine (espoil_any w3.heap.size _ _ _ _ O4.out B4.out.size (by have h1 := len_in Ma q ⟨lo, hi, op⟩; have h2 := La.out.len; have h3 := HN.out; omega)).mono ?_
  rintro e w7 ⟨rfl, k7⟩
  replace B4 := aside (spoilt B4.out O4.out k7)
  clear k7 O4
  go_wp2_with fail
  refine (kept_any (CP.out.keep B4.out) (La.out.keep B4.out) HN.out).mono ?_
  rintro e w8 ⟨rfl, b8⟩
  replace BW := aside (bthen BW.out (bthen B4.out b8))
  clear b8
  go_wp2
  go_ret
  exact ⟨rfl, BW.out⟩

end Go.Proofs.Ytgailbfoicoaiaa

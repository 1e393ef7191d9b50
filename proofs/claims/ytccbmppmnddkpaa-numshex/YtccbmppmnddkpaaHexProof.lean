/-
  Proved: for all texts s and t, the law NumsHex returns true and leaves its arguments as they were: Hex is the document's, Unhex undoes it, Unhex is the document's on any text, and what it takes is written so. No condition.
-/
import Derived.Test.YtccbmppmnddkpaaRows
import Derived.Test.YtccbmppmnddkpaaHexWalks3
import Derived.Test.YtccbmppmnddkpaaHexWalks5
import Derived.WalkKit
import Derived.ProofKit
import Derived.OpenShut
import Derived.ShutString
import Derived.ChangeOld
import Derived.Below
namespace Go.Proofs.Ytccbmppmnddkpaa.numsHex
open Go.ChangeShapes Go.WideShapes Go.ChangeAt Go.RowKit
open Go.ChangeMaps (open_string shut_string)
set_option linter.unusedVariables false

theorem own : ownKnob Try.prog.godebug = none := by kernel_rfl

theorem data_back (s : ByteArray) : (⟨s.data.toList.toArray⟩ : ByteArray) = s := rfl

theorem hex_size (s : ByteArray) : (⟨(Hx.hex s.data.toList).toArray⟩ : ByteArray).size = 2 * s.size := by
  show (Hx.hex s.data.toList).toArray.size = 2 * s.data.size
  simp [Hx.hex_length]

theorem unhex_back (s : ByteArray) (w : World) (hs : s.size ≤ 1073741824) :
    Calls Try.prog 32 #[.string ⟨(Hx.hex s.data.toList).toArray⟩] w fun e w' => e = .returned (.tuple #[.string s, .int .i64 0]) ∧ Below w.heap.size w w' := by
  have := unhex_any ⟨(Hx.hex s.data.toList).toArray⟩ w (by rw [hex_size]; omega)
  rwa [unhexVal_some (Hx.unhex_hex s.data.toList)] at this

theorem unhex_some (t : ByteArray) (c : List UInt8) (h : Hx.unhex t.data.toList = some c) (w : World) (hs : t.size ≤ 1073741824) :
    Calls Try.prog 32 #[.string t] w fun e w' => e = .returned (.tuple #[.string ⟨c.toArray⟩, .int .i64 0]) ∧ Below w.heap.size w w' := by
  have := unhex_any t w (by omega)
  rwa [unhexVal_some h] at this

theorem unhex_none (t : ByteArray) (h : Hx.unhex t.data.toList = none) (w : World) (hs : t.size ≤ 1073741824) :
    Calls Try.prog 32 #[.string t] w fun e w' => e = .returned (.tuple #[.string ⟨#[]⟩, .int .i64 23]) ∧ Below w.heap.size w w' := by
  have := unhex_any t w (by omega)
  rwa [unhexVal_none h] at this

theorem unhexRef_some (t : ByteArray) (c : List UInt8) (h : Hx.unhex t.data.toList = some c) (w : World) (hs : t.size ≤ 1073741824) :
    Calls Try.prog 33 #[.string t] w fun e w' => e = .returned (.tuple #[.string ⟨c.toArray⟩, .int .i64 0]) ∧ Below w.heap.size w w' := by
  have := unhexRef_any t w (by omega)
  rwa [unhexVal_some h] at this

theorem unhexRef_none (t : ByteArray) (h : Hx.unhex t.data.toList = none) (w : World) (hs : t.size ≤ 1073741824) :
    Calls Try.prog 33 #[.string t] w fun e w' => e = .returned (.tuple #[.string ⟨#[]⟩, .int .i64 23]) ∧ Below w.heap.size w w' := by
  have := unhexRef_any t w (by omega)
  rwa [unhexVal_none h] at this

theorem hex_again (t : ByteArray) (c : List UInt8) (h : Hx.unhex t.data.toList = some c) (w : World) (hs : t.size ≤ 1073741824) :
    Calls Try.prog 31 #[.string ⟨c.toArray⟩] w fun e w' => e = .returned (.string t) ∧ Below w.heap.size w w' := by
  have hl := Hx.unhex_length _ t.data.toList c (Nat.le_refl _) h
  have e0 : t.data.toList.length = t.size := by show t.data.toList.length = t.data.size; simp
  have e1 : (⟨c.toArray⟩ : ByteArray).size = c.length := by show c.toArray.size = c.length; simp
  have := hex_any ⟨c.toArray⟩ w (by omega)
  rwa [show (Hx.hex (⟨c.toArray⟩ : ByteArray).data.toList) = t.data.toList from Hx.hex_unhex _ _ _ (Nat.le_refl _) h] at this

theorem str_self (s : ByteArray) : (s.toList == s.toList) = true := by simp

set_option maxHeartbeats 1600000 in
theorem walk_in (s t : ByteArray) (w : World) (h0 : s.size ≤ 1073741824) (h1 : t.size ≤ 1073741824) :
    Calls Try.prog 7 #[.string s, .string t] w fun e w' => e = .returned (.bool true) ∧ Below w.heap.size w w' := by
  have g0 : (s.size : Int) ≤ 1073741824 := by omega
  have g1 : (t.size : Int) ≤ 1073741824 := by omega
  obtain ⟨h, hh⟩ : ∃ h : ByteArray, h = ⟨(Hx.hex s.data.toList).toArray⟩ := ⟨_, rfl⟩
  have c1 := fun w => hex_any s w (by omega)
  have c2 := fun w => unhex_back s w h0
  have c3 := fun w => hexRef_any s w (by omega)
  rw [← hh] at c1 c2 c3
  have C1 := aside c1; have C2 := aside c2; have C3 := aside c3
  clear c1 c2 c3 hh
  cases hu : Hx.unhex t.data.toList with
  | some c =>
    have d1 := fun w => unhex_some t c hu w h1
    have d2 := fun w => unhexRef_some t c hu w h1
    have d3 := fun w => hex_again t c hu w h1
    obtain ⟨cb, hcb⟩ : ∃ cb : ByteArray, cb = ⟨c.toArray⟩ := ⟨_, rfl⟩
    rw [← hcb] at d1 d2 d3
    have D1 := aside d1; have D2 := aside d2; have D3 := aside d3
    clear d1 d2 d3 hcb hu
    go_enter Try.func7, Try.ntmps7
    go_wp2_with fail
    refine (C1.out _).mono ?_
    rintro e w1 ⟨rfl, b1⟩
    go_wp2_with fail
    refine (C2.out _).mono ?_
    rintro e w2 ⟨rfl, b2⟩
    go_wp2_with fail
    refine (D1.out _).mono ?_
    rintro e w3 ⟨rfl, b3⟩
    go_wp2_with fail
    refine (D2.out _).mono ?_
    rintro e w4 ⟨rfl, b4⟩
    go_wp2_with fail
    refine (C3.out _).mono ?_
    rintro e w5 ⟨rfl, b5⟩
    go_wp2_with fail
    refine (D3.out _).mono ?_
    rintro e w6 ⟨rfl, b6⟩
    go_wp2
    go_ret
    exact ⟨rfl, b1.trans ((b2.mono b1.size).trans ((b3.mono (Nat.le_trans b1.size b2.size)).trans ((b4.mono (Nat.le_trans b1.size (Nat.le_trans b2.size b3.size))).trans ((b5.mono (Nat.le_trans b1.size (Nat.le_trans b2.size (Nat.le_trans b3.size b4.size)))).trans (b6.mono (Nat.le_trans b1.size (Nat.le_trans b2.size (Nat.le_trans b3.size (Nat.le_trans b4.size b5.size)))))))))⟩
  | none =>
    have D1 := aside (fun w => unhex_none t hu w h1)
    have D2 := aside (fun w => unhexRef_none t hu w h1)
    clear hu
    go_enter Try.func7, Try.ntmps7
    go_wp2_with fail
    refine (C1.out _).mono ?_
    rintro e w1 ⟨rfl, b1⟩
    go_wp2_with fail
    refine (C2.out _).mono ?_
    rintro e w2 ⟨rfl, b2⟩
    go_wp2_with fail
    refine (D1.out _).mono ?_
    rintro e w3 ⟨rfl, b3⟩
    go_wp2_with fail
    refine (D2.out _).mono ?_
    rintro e w4 ⟨rfl, b4⟩
    go_wp2_with fail
    refine (C3.out _).mono ?_
    rintro e w5 ⟨rfl, b5⟩
    go_wp2
    go_ret
    exact ⟨rfl, b1.trans ((b2.mono b1.size).trans ((b3.mono (Nat.le_trans b1.size b2.size)).trans ((b4.mono (Nat.le_trans b1.size (Nat.le_trans b2.size b3.size))).trans (b5.mono (Nat.le_trans b1.size (Nat.le_trans b2.size (Nat.le_trans b3.size b4.size)))))))⟩

theorem walk (a0 : ByteArray) (a1 : ByteArray) (w : World) (w0 : a0.size ≤ maxLen) (w1 : a1.size ≤ maxLen) :
    Calls Try.prog 7 #[.string a0, .string a1] w fun e w' => e = .returned (.bool true) ∧ Below w.heap.size w w' := by
  unfold maxLen at w0 w1
  by_cases h0 : a0.size ≤ 1073741824
  · by_cases h1 : a1.size ≤ 1073741824
    · exact walk_in a0 a1 w h0 h1
    · have g0 : (a0.size : Int) ≤ 1073741824 := by omega
      have g1 : (1073741824 : Int) < a1.size := by omega
      go_enter Try.func7, Try.ntmps7
      go_wp2
      go_ret
      exact ⟨rfl, Below.refl _ _⟩
  · have g0 : (1073741824 : Int) < a0.size := by omega
    go_enter Try.func7, Try.ntmps7
    go_wp2
    go_ret
    exact ⟨rfl, Below.refl _ _⟩

set_option maxRecDepth 100000 in
theorem lifted (os : Os) (started : os.Started) (H : Type) (enc : TypeId × Value → H) :
    ReturnsInHanded {} Try.checked os 7 .any (Rows.numsHexSpec.pre6 enc Try.prog Try.f7 Rows.numsHexRow.domain false) (Rows.numsHexSpec.post enc Try.prog Try.f7 false true false false) := by
  refine returnsInHanded_of_change (C := Try.checked) own started (by kernel_rfl) Try.func7
    (ChangeSpec.witness6 (enc := enc) (C := Try.checked) false ⟨#[], #[.string ByteArray.empty, .string ByteArray.empty], []⟩ 8 (by kernel_rfl) (by kernel_rfl) (by kernel_rfl) (by kernel_rfl)) ?_
  intro W base args ds gs before hval0 hW hcnd _
  have hval : ∀ (j : Nat) t v, Try.f7.params[j]? = some t → args[j]? = some v → Value.okWide Try.prog W .any base t v := hval0
  have hW' := hW
  obtain ⟨p, q, hA0, hV, rfl, hfz, hnd⟩ := hW
  have hA : DataW.TrodAll enc Try.prog W 0 (fun _ => true) true Try.f7.params.toList args.toList ds p := hA0
  rw [Try.params7] at hA hval
  obtain ⟨v0, vs0, d0, ds0, p0, q0, hargs, rfl, rfl, h0, r0⟩ := trodAll_cons hA
  obtain ⟨v1, vs1, d1, ds1, p1, q1, rfl, rfl, rfl, h1, r1⟩ := trodAll_cons r0
  obtain ⟨rfl, rfl, rfl⟩ := trodAll_nil r1
  obtain rfl : args = #[v0, v1] := by cases args; simp_all
  obtain ⟨rfl, rfl⟩ := trodVars_none hV
  obtain ⟨a0, rfl, rfl, rfl, w0⟩ := open_string Try.underlying9 (hval 0 9 v0 rfl rfl) h0
  obtain ⟨a1, rfl, rfl, rfl, w1⟩ := open_string Try.underlying9 (hval 1 9 v1 rfl rfl) h1
  clear hA0 hval0
  refine (walk a0 a1 W w0 w1).mono fun e W' ⟨he, bel⟩ => ?_
  subst he
  exact ⟨_, rfl, _, _, _, [], [], [], hW', trodAll_mk1 (shut_bool Try.underlying4 _), (trodAll_cons_mk (shut_string Try.underlying9 w0) (trodAll_cons_mk (shut_string Try.underlying9 w1) trodAll_mk0)), rfl, bel.frame _, fun h => by cases h⟩

theorem over : Rows.numsHexRow.holds Try.pinned (OpenSpec.ofChange Rows.numsHexSpec) :=
  OpenClaim.holds_of_wide 7 Try.f7 rfl rfl rfl rfl rfl rfl rfl ⟨rfl, rfl, rfl, rfl, rfl⟩ rfl rfl rfl rfl rfl (by kernel_rfl) Try.func7 (by kernel_rfl)
    (of_decide_eq_true (by kernel_rfl)) (by unfold Func.isWrapper; first | (rw [if_pos (by decide +kernel)]; kernel_rfl) | (rw [if_neg (by decide +kernel)]; exact ⟨rfl, rfl⟩))
    (fun os started H enc _ => lifted os started H enc)

end Go.Proofs.Ytccbmppmnddkpaa.numsHex
namespace Go.Proofs.Ytccbmppmnddkpaa
theorem numsHex_holds : Rows.NumsHexSaid := numsHex.over
end Go.Proofs.Ytccbmppmnddkpaa

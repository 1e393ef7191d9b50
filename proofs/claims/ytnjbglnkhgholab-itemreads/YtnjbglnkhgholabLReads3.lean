/-
  The law ItemReads, walked: whatever bytes came in, both readers read the same entries and stand alike.
-/
import Derived.Test.YtnjbglnkhgholabIGetAny
namespace Go.Proofs.Ytnjbglnkhgholab
open Go.RowKit
set_option linter.unusedVariables false

/-- The loop: both readers stand alike. -/
def Reads3Rel (B br bd : Nat) (s : ByteArray) (v : Value) (L : List UInt8) (B0 : Nat) (w : World) (i : Value) (wr : World) : Prop :=
  ∃ (k p : Nat) (e : Int), i = .int .i64 (k : Int) ∧ k ≤ L.length + 1 ∧ OneR br s L p e wr ∧ DocR B bd v L p e wr ∧ Below B0 w wr

set_option maxHeartbeats 400000 in
theorem reads3_long (a : Option Addr) (len cap : Nat) (many : Int) (w : World) (hb : ¬ len ≤ 1073741824) :
    Calls Try.prog 3 #[.slice a len cap, .int .i64 many] w fun e w' => e = .returned (.bool true) ∧ Below w.heap.size w w' := by
  have g30 : (1073741824 : Int) < len := by omega
  clear hb
  go_enter Try.func3, Try.ntmps3
  go_wp2
  go_ret
  exact ⟨rfl, Below.refl _ _⟩

set_option maxHeartbeats 6400000 in
set_option maxRecDepth 100000 in
theorem reads3_in (a : Option Addr) (len cap : Nat) (L : List UInt8) (many : Int) (w : World) (hB : ArgB w a len cap L) (hb : len ≤ 1073741824) :
    Calls Try.prog 3 #[.slice a len cap, .int .i64 many] w fun e w' => e = .returned (.bool true) ∧ Below w.heap.size w w' := by
  have hlen : (len : Int) ≤ 1073741824 := by omega
  have hLl : L.length = len := hB.1
  have HA := aside hB
  have HLL := aside hLl
  clear hB hb hLl
  go_enter Try.func3, Try.ntmps3
  go_wp2_with fail
  refine (newReader_any (.slice a len cap) L _ HA.out.reads).mono ?_
  rintro e w1 ⟨rfl, hw1⟩
  have r1 : IsR w.heap.size ⟨L.toArray⟩ ((0 : Nat) : Int) 0 w1 := by rw [hw1]; exact isR_new w _
  have b1 : Below w.heap.size w w1 := by rw [hw1]; exact (Below.refl _ _).alloc (Nat.le_refl _) _
  have s1 : w.heap.size < w1.heap.size := r1.lt
  obtain ⟨s, hs⟩ : ∃ s : ByteArray, s = ⟨L.toArray⟩ := ⟨_, rfl⟩
  rw [← hs] at r1
  have R1 := aside r1
  have HS := aside hs
  clear hw1 r1 hs
  go_wp2_with fail
  refine (newReaderRef_any a len cap L _ (HA.out.later b1) (by omega)).mono ?_
  rintro e w2 ⟨rfl, v, d2, k2⟩
  have fv : ∀ q, v.ownBlock = some q → w1.heap.size < q := fun q hq => by have := d2.2.1.lt q hq; omega
  have r2 : OneR w.heap.size s L 0 0 w2 := ⟨R1.out.keep k2 (fun h => h), by rw [HS.out], Nat.zero_le _, by rw [HLL.out]; omega⟩
  have d2' : DocR (w1.heap.size + 1) w1.heap.size v L 0 0 w2 := ⟨d2, Nat.zero_le _, by rw [HLL.out]; omega⟩
  have b2 : Below w.heap.size w w2 := b1.trans (k2.below b1.size (fun _ _ h => h))
  obtain ⟨bd, hbd⟩ : ∃ bd, bd = w1.heap.size := ⟨_, rfl⟩
  rw [← hbd] at d2' fv s1
  rw [← hbd]
  obtain ⟨br, hbr⟩ : ∃ br, br = w.heap.size := ⟨_, rfl⟩
  rw [← hbr] at r2 s1
  rw [← hbr]
  have RR := aside r2
  have DD := aside d2'
  have HBR := aside hbr
  have FV := aside fv
  clear hbd hbr d2 k2 R1 HS r2 d2' b1 fv
  go_wp2
  go_loopw [7] (fun i wr => Reads3Rel (bd + 1) br bd s v L w.heap.size w i wr) (fun i _ => L.length + 1 - (intOf i).toNat)
  case atStart => exact ⟨0, 0, 0, rfl, Nat.zero_le _, RR.out, DD.out, b2⟩
  case round =>
    obtain ⟨k, p, e, rfl, hk, hr, hd, hbel⟩ := hrel
    by_cases hlt : (k : Int) < many
    · by_cases hle : (k : Int) ≤ (len : Int)
      · rcases hG : getSt L p e with ⟨⟨gk, gc, gn, gv, gd⟩, p', e'⟩
        have C1 := aside (fun w (h : OneR br s L p e w) => get_at h hG)
        have C2 := aside (fun w (h : DocR (bd + 1) bd v L p e w) => getRef_at h hG)
        have HR := aside hr
        have HD := aside hd
        have hne : br ≠ bd := by omega
        have HNE := aside hne
        clear hG hr hd hne RR DD b2
        go_wp2_with fail
        refine (C1.out _ HR.out).mono ?_
        rintro r w3 ⟨rfl, R3, k3⟩
        have D3 := HD.out.keep k3 (fun x => HNE.out x.symm) (fun j hj x => by have := FV.out j hj; have := HNE.out; omega)
        have bel3 : Below w.heap.size w w3 := hbel.trans (k3.below hbel.size (fun j hj x => by have := HBR.out; omega))
        have HR3 := aside R3
        have HD3 := aside D3
        clear R3 D3 k3 HR HD hbel C1
        go_wp2_with fail
        refine (C2.out _ HD3.out).mono ?_
        rintro r w4 ⟨rfl, D4, k4⟩
        have R4 := HR3.out.keep k4 (fun x => HNE.out x)
        have bel4 : Below w.heap.size w w4 := bel3.trans (k4.below bel3.size (fun j hj x => by have := HBR.out; omega))
        have hsz : (s.size : Int) = (L.length : Int) := by rw [R4.size]
        have hp0 : (p' : Int) ≤ (L.length : Int) := by have := R4.le; omega
        have HSZ := aside hsz
        have HP0 := aside hp0
        have HR4 := aside R4
        have HD4 := aside D4
        clear R4 D4 k4 HR3 HD3 bel3 C2 hsz hp0
        go_wp2_with fail
        refine (rerr_any br s (p' : Int) e' _ HR4.out.code).mono ?_
        rintro r w5 ⟨rfl, hw5⟩
        subst hw5
        go_wp2_with fail
        refine (rrerr_any (bd + 1) bd v L (p' : Int) e' _ HD4.out.doc).mono ?_
        rintro r w6 ⟨rfl, hw6⟩
        subst hw6
        go_wp2_with fail
        refine (rat_any br s (p' : Int) e' _ HR4.out.code).mono ?_
        rintro r w7 ⟨rfl, hw7⟩
        subst hw7
        go_wp2_with fail
        refine (rrat_any (bd + 1) bd v L (p' : Int) e' _ HD4.out.doc).mono ?_
        rintro r w8 ⟨rfl, hw8⟩
        subst hw8
        go_wp2_with fail
        refine (rleft_any br s (p' : Int) e' _ HR4.out.code (by omega) (by rw [HSZ.out]; exact HP0.out) (by have := HR4.out.small; have := HR4.out.size; omega)).mono ?_
        rintro r w9 ⟨rfl, q9, hw9⟩
        rw [HSZ.out]
        have R9 : Hid (OneR br s L p' e' w9) := by rw [hw9]; exact ⟨HR4.out.code, HR4.out.text, HR4.out.le, HR4.out.small⟩
        have D9 : Hid (DocR (bd + 1) bd v L p' e' w9) := by rw [hw9]; exact ⟨HD4.out.doc, HD4.out.le, HD4.out.small⟩
        have bel9 : Below w.heap.size w w9 := by rw [hw9]; exact ⟨bel4.os, bel4.tape, bel4.output, bel4.size, bel4.block⟩
        clear hw9 HR4 HD4 bel4
        go_wp2_with fail
        refine (rrleft_any (bd + 1) bd v L (p' : Int) e' _ D9.out.doc (by omega) HP0.out D9.out.small).mono ?_
        rintro r w10 ⟨rfl, q10, hw10⟩
        have R10 : Hid (OneR br s L p' e' w10) := by rw [hw10]; exact ⟨R9.out.code, R9.out.text, R9.out.le, R9.out.small⟩
        have D10 : Hid (DocR (bd + 1) bd v L p' e' w10) := by rw [hw10]; exact ⟨D9.out.doc, D9.out.le, D9.out.small⟩
        have bel10 : Below w.heap.size w w10 := by rw [hw10]; exact ⟨bel9.os, bel9.tape, bel9.output, bel9.size, bel9.block⟩
        clear hw10 R9 D9 bel9
        go_wp2
        go_roundw
        case rel => exact ⟨k + 1, p', e', by go_num, by have := HLL.out; omega, R10.out, D10.out, bel10⟩
        case measure => have := HLL.out; simp [intOf]; omega
      · go_wp2
        go_ret
        exact ⟨rfl, hbel⟩
    · go_wp2
      go_ret
      exact ⟨rfl, hbel⟩

theorem reads3_walk (a : Option Addr) (len cap : Nat) (zs : List Int) (many : Int) (w : World) (hrow : IsRow w a len cap zs) :
    Calls Try.prog 3 #[.slice a len cap, .int .i64 many] w fun e w' => e = .returned (.bool true) ∧ Below w.heap.size w w' := by
  by_cases hb : len ≤ 1073741824
  · exact reads3_in a len cap _ many w (ArgB.of_row hrow) hb
  · exact reads3_long a len cap many w hb

end Go.Proofs.Ytnjbglnkhgholab

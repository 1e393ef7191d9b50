/-
  The law SpanKeys, walked: it returns true at any two ranges and any text.
-/
import Derived.Test.YtidajlnaehhkkaaLKeep
import Derived.Test.YtidajlnaehhkkaaSAlg3
import Derived.Deep.RegionWith
namespace Go.Proofs.Ytidajlnaehhkkaa
open Go.RowKit

set_option maxRecDepth 100000 in
set_option maxHeartbeats 6400000 in
theorem keys_walk (alo ahi blo bhi : ByteArray) (aop bop : Bool) (k : ByteArray) (w : World) (hw : MaxAt w) :
    Calls Try.prog 5 #[.agg #[.string alo, .string ahi, .bool aop], .agg #[.string blo, .string bhi, .bool bop], .string k] w fun e w' => e = .returned (.bool true) ∧ Below w.heap.size w w' := by
  have hM := meetV_eq (Rg.meet ⟨alo, ahi, aop⟩ ⟨blo, bhi, bop⟩)
  have F1 := key_meet ⟨alo, ahi, aop⟩ ⟨blo, bhi, bop⟩ k
  obtain ⟨xlo, hx1⟩ : ∃ x, metLo (Rg.meet ⟨alo, ahi, aop⟩ ⟨blo, bhi, bop⟩) = x := ⟨_, rfl⟩
  obtain ⟨xhi, hx2⟩ : ∃ x, metHi (Rg.meet ⟨alo, ahi, aop⟩ ⟨blo, bhi, bop⟩) = x := ⟨_, rfl⟩
  obtain ⟨xop, hx3⟩ : ∃ x, metOp (Rg.meet ⟨alo, ahi, aop⟩ ⟨blo, bhi, bop⟩) = x := ⟨_, rfl⟩
  obtain ⟨is, hx4⟩ : ∃ x, metIs (Rg.meet ⟨alo, ahi, aop⟩ ⟨blo, bhi, bop⟩) = x := ⟨_, rfl⟩
  rw [hx1, hx2, hx3, hx4] at hM F1
  obtain ⟨hm, ehm⟩ : ∃ q, Rg.has ⟨xlo, xhi, xop⟩ k = q := ⟨_, rfl⟩
  obtain ⟨ha, eha⟩ : ∃ q, Rg.has ⟨alo, ahi, aop⟩ k = q := ⟨_, rfl⟩
  obtain ⟨hb, ehb⟩ : ∃ q, Rg.has ⟨blo, bhi, bop⟩ k = q := ⟨_, rfl⟩
  obtain ⟨wi, ewi⟩ : ∃ q, withR ⟨alo, ahi, aop⟩ ⟨blo, bhi, bop⟩ = q := ⟨_, rfl⟩
  obtain ⟨ea, eea⟩ : ∃ q, Rg.emp ⟨alo, ahi, aop⟩ = q := ⟨_, rfl⟩
  obtain ⟨hl, ehl⟩ : ∃ q, Rg.has ⟨alo, ahi, aop⟩ alo = q := ⟨_, rfl⟩
  obtain ⟨gl, egl⟩ : ∃ q, Rg.has ⟨blo, bhi, bop⟩ alo = q := ⟨_, rfl⟩
  obtain ⟨hh, ehh⟩ : ∃ q, Rg.has ⟨alo, ahi, aop⟩ bhi = q := ⟨_, rfl⟩
  obtain ⟨gh, egh⟩ : ∃ q, Rg.has ⟨blo, bhi, bop⟩ bhi = q := ⟨_, rfl⟩
  obtain ⟨ca, eca⟩ : ∃ q, Rg.chk ⟨alo, ahi, aop⟩ = q := ⟨_, rfl⟩
  obtain ⟨cb, ecb⟩ : ∃ q, Rg.chk ⟨blo, bhi, bop⟩ = q := ⟨_, rfl⟩
  rw [ehm, eha, ehb] at F1
  have F2 : wi = true → (ca = 0 ∧ cb = 0) ∧ (ha = true → hb = true) := fun h => by
    rw [h] at ewi
    obtain ⟨m1, m2⟩ := with_may ewi
    exact ⟨⟨eca.symm.trans (may_chk m1), ecb.symm.trans (may_chk m2)⟩, fun h2 => ehb.symm.trans (with_has ewi (eha.trans h2))⟩
  have F3 : wi = false → ca = 0 → cb = 0 → ea = false ∧ (gl = true → hh = true ∧ gh = false) := fun h h1 h2 => by
    rw [h] at ewi
    have m1 : Rg.may ⟨alo, ahi, aop⟩ = true := by unfold Rg.may; rw [eca, h1]; rfl
    have m2 : Rg.may ⟨blo, bhi, bop⟩ = true := by unfold Rg.may; rw [ecb, h2]; rfl
    obtain ⟨n1, n2⟩ := with_no m1 m2 ewi
    refine ⟨eea.symm.trans n1, fun h3 => ?_⟩
    obtain ⟨n3, n4⟩ := n2 (egl.trans h3)
    exact ⟨ehh.symm.trans n3, egh.symm.trans n4⟩
  have F4 : ea = true → ha = false ∧ hl = false := fun h => by
    rw [h] at eea
    exact ⟨eha.symm.trans (emp_has eea), ehl.symm.trans (emp_has eea)⟩
  have F5 : ea = false → hl = true := fun h => by
    rw [h] at eea
    exact ehl.symm.trans (has_lo eea)
  have F6 : ¬ ca = 0 → ea = true := fun h => by
    refine eea.symm.trans (emp_of_not_may ?_)
    unfold Rg.may; rw [eca]; simpa using h
  have CM := aside (fun w => meet_at hM w)
  have Hm := aside (fun w => holds_at ehm w)
  have Ha := aside (fun w => holds_at eha w)
  have Hb := aside (fun w => holds_at ehb w)
  have Wi := aside (fun w => within_at ewi w)
  have Ea := aside (fun w => empty_at eea w)
  have Hl := aside (fun w => holds_at ehl w)
  have Gl := aside (fun w => holds_at egl w)
  have Hh := aside (fun w => holds_at ehh w)
  have Gh := aside (fun w => holds_at egh w)
  have Ca := aside (fun w => check_at eca w)
  have Cb := aside (fun w => check_at ecb w)
  have C0 := aside (fun w h => shown_any w h)
  have HW := aside hw
  have G1 := aside F1; have G2 := aside F2; have G3 := aside F3; have G4 := aside F4; have G5 := aside F5; have G6 := aside F6
  clear F1 F2 F3 F4 F5 F6
  clear hw hM hx1 hx2 hx3 hx4 ehm eha ehb ewi eea ehl egl ehh egh eca ecb
  go_enter Try.func5, Try.ntmps5
  go_wp2_with fail
  refine (C0.out _ (HW.out.below (bthen (bnew w _) (bnew _ _)))).mono ?_
  rintro e w1 ⟨rfl, b1⟩
  obtain ⟨kA, kB, b01⟩ := two_new b1
  obtain ⟨⟨a0, a1, a2⟩, -⟩ := box_out kA
  obtain ⟨⟨c0, c1, c2⟩, -⟩ := box_out kB
  have KA := aside kA; have KB := aside kB
  clear b1 kA kB HW C0
  go_wp2_with fail
  refine (CM.out _).mono ?_
  rintro e w2 ⟨rfl, b2⟩
  have b02 := bthen b01 b2
  have kA := keep KA.out b2; have kB := keep KB.out b2
  clear a0 a1 a2 c0 c1 c2 KA KB b2 CM b01
  have b03 := bthen b02 (bnew w2 (.cells #[.string xlo, .string xhi, .bool xop] 23))
  have XA := (box_out (keepA (p := .cells #[.string xlo, .string xhi, .bool xop] 23) kA)).1; have XB := (box_out (keepA (p := .cells #[.string xlo, .string xhi, .bool xop] 23) kB)).1; have XX := (box_out (heap_new w2 (.cells #[.string xlo, .string xhi, .bool xop] 23))).1
  clear kA kB b02
  go_wp2_with fail
  generalize w2.alloc (.cells #[.string xlo, .string xhi, .bool xop] 23) = W0 at *
  rename_i K1 hK1 K0 hK0
  have HK : ∀ (u18 u19 u20 u21 u22 u23 u24 u25 u26 u27 u28 u29 u30 u31 u32 : Value) (W : World), Below w.heap.size w W → W.cell? ⟨w.heap.size, 0, none⟩ = some (.string alo) → W.cell? ⟨w.heap.size, 1, none⟩ = some (.string ahi) → W.cell? ⟨w.heap.size, 2, none⟩ = some (.bool aop) → W.cell? ⟨w.heap.size + 1, 0, none⟩ = some (.string blo) → W.cell? ⟨w.heap.size + 1, 1, none⟩ = some (.string bhi) → W.cell? ⟨w.heap.size + 1, 2, none⟩ = some (.bool bop) → K1 { tmps := #[.agg #[.string alo, .string ahi, .bool aop], .agg #[.string blo, .string bhi, .bool bop], .string k, .pointer (some ⟨w.heap.size, 0, none⟩), .pointer (some ⟨w.heap.size + 1, 0, none⟩), undef, .bool false, .pointer (some ⟨w2.heap.size, 0, none⟩), .bool is, undef, .bool true, .bool false, .tuple #[.agg #[.string xlo, .string xhi, .bool xop], .bool is], .agg #[.string alo, .string ahi, .bool aop], .agg #[.string blo, .string bhi, .bool bop], .tuple #[.agg #[.string xlo, .string xhi, .bool xop], .bool is], .agg #[.string xlo, .string xhi, .bool xop], .bool is, u18, u19, u20, u21, u22, u23, u24, u25, u26, u27, u28, u29, u30, u31, u32, undef, undef, undef, undef, undef, undef, undef, undef, undef, undef, undef, undef, undef, undef, undef, undef, undef, undef, undef, undef, undef, undef, undef, undef, undef, undef, undef, undef, undef, undef, undef, undef, undef, undef, undef, undef, undef, undef, undef, undef, undef, undef, undef, undef, undef, undef, undef, undef, undef, undef, undef, undef, undef, undef, undef, undef, undef, undef, undef, undef, undef, undef, undef, undef, undef, undef, undef, undef, undef, undef, undef, undef, undef, undef], defers := [] } W := by
    intro u18 u19 u20 u21 u22 u23 u24 u25 u26 u27 u28 u29 u30 u31 u32 W b0 a0 a1 a2 c0 c1 c2
    clear XA XB XX b03 G1 Hm
    apply hK1
    clear hK1 hK0
    go_wp2_with fail
    refine (Wi.out _).mono ?_
    rintro e v1 ⟨rfl, bb⟩
    have e1 := bthen b0 bb
    replace a0 := cell_on a0 bb
    replace a1 := cell_on a1 bb
    replace a2 := cell_on a2 bb
    replace c0 := cell_on c0 bb
    replace c1 := cell_on c1 bb
    replace c2 := cell_on c2 bb
    clear bb b0
    cases wi
    · have G3' := G3.out rfl
      clear G2 G3
      go_wp2_with fail
      refine (Ca.out _).mono ?_
      rintro e v2 ⟨rfl, bb⟩
      have e2 := bthen e1 bb
      replace a0 := cell_on a0 bb
      replace a1 := cell_on a1 bb
      replace a2 := cell_on a2 bb
      replace c0 := cell_on c0 bb
      replace c1 := cell_on c1 bb
      replace c2 := cell_on c2 bb
      clear bb e1
      by_cases hca : ca = 0
      · subst hca
        go_wp2_with fail
        refine (Cb.out _).mono ?_
        rintro e v3 ⟨rfl, bb⟩
        have e3 := bthen e2 bb
        replace a0 := cell_on a0 bb
        replace a1 := cell_on a1 bb
        replace a2 := cell_on a2 bb
        replace c0 := cell_on c0 bb
        replace c1 := cell_on c1 bb
        replace c2 := cell_on c2 bb
        clear bb e2
        by_cases hcb : cb = 0
        · subst hcb
          obtain ⟨rfl, G3⟩ := G3' (by simp) (by simp)
          obtain rfl := G5.out (by simp)
          clear G3' G4 G5 G6
          have G3 := aside G3
          go_wp2_with fail
          refine (Ea.out _).mono ?_
          rintro e v4 ⟨rfl, bb⟩
          have e4 := bthen e3 bb
          replace a0 := cell_on a0 bb
          replace a1 := cell_on a1 bb
          replace a2 := cell_on a2 bb
          replace c0 := cell_on c0 bb
          replace c1 := cell_on c1 bb
          replace c2 := cell_on c2 bb
          clear bb e3
          go_wp2_with fail
          refine (Hl.out _).mono ?_
          rintro e v5 ⟨rfl, bb⟩
          have e5 := bthen e4 bb
          replace a0 := cell_on a0 bb
          replace a1 := cell_on a1 bb
          replace a2 := cell_on a2 bb
          replace c0 := cell_on c0 bb
          replace c1 := cell_on c1 bb
          replace c2 := cell_on c2 bb
          clear bb e4
          go_wp2_with fail
          refine (Gl.out _).mono ?_
          rintro e v6 ⟨rfl, bb⟩
          have e6 := bthen e5 bb
          replace a0 := cell_on a0 bb
          replace a1 := cell_on a1 bb
          replace a2 := cell_on a2 bb
          replace c0 := cell_on c0 bb
          replace c1 := cell_on c1 bb
          replace c2 := cell_on c2 bb
          clear bb e5
          cases gl
          · go_wp2_with fail
            refine (Ea.out _).mono ?_
            rintro e v7 ⟨rfl, bb⟩
            have e7 := bthen e6 bb
            replace a0 := cell_on a0 bb
            replace a1 := cell_on a1 bb
            replace a2 := cell_on a2 bb
            replace c0 := cell_on c0 bb
            replace c1 := cell_on c1 bb
            replace c2 := cell_on c2 bb
            clear bb e6
            go_wp2_with fail
            refine (Hl.out _).mono ?_
            rintro e v8 ⟨rfl, bb⟩
            have e8 := bthen e7 bb
            replace a0 := cell_on a0 bb
            replace a1 := cell_on a1 bb
            replace a2 := cell_on a2 bb
            replace c0 := cell_on c0 bb
            replace c1 := cell_on c1 bb
            replace c2 := cell_on c2 bb
            clear bb e7
            go_wp2
            go_ret
            exact ⟨rfl, e8⟩
          · obtain ⟨rfl, rfl⟩ := G3.out (by simp)
            go_wp2_with fail
            refine (Hh.out _).mono ?_
            rintro e v9 ⟨rfl, bb⟩
            have e9 := bthen e6 bb
            replace a0 := cell_on a0 bb
            replace a1 := cell_on a1 bb
            replace a2 := cell_on a2 bb
            replace c0 := cell_on c0 bb
            replace c1 := cell_on c1 bb
            replace c2 := cell_on c2 bb
            clear bb e6
            go_wp2_with fail
            refine (Gh.out _).mono ?_
            rintro e v10 ⟨rfl, bb⟩
            have e10 := bthen e9 bb
            replace a0 := cell_on a0 bb
            replace a1 := cell_on a1 bb
            replace a2 := cell_on a2 bb
            replace c0 := cell_on c0 bb
            replace c1 := cell_on c1 bb
            replace c2 := cell_on c2 bb
            clear bb e9
            go_wp2_with fail
            refine (Ea.out _).mono ?_
            rintro e v11 ⟨rfl, bb⟩
            have e11 := bthen e10 bb
            replace a0 := cell_on a0 bb
            replace a1 := cell_on a1 bb
            replace a2 := cell_on a2 bb
            replace c0 := cell_on c0 bb
            replace c1 := cell_on c1 bb
            replace c2 := cell_on c2 bb
            clear bb e10
            go_wp2_with fail
            refine (Hl.out _).mono ?_
            rintro e v12 ⟨rfl, bb⟩
            have e12 := bthen e11 bb
            replace a0 := cell_on a0 bb
            replace a1 := cell_on a1 bb
            replace a2 := cell_on a2 bb
            replace c0 := cell_on c0 bb
            replace c1 := cell_on c1 bb
            replace c2 := cell_on c2 bb
            clear bb e11
            go_wp2
            go_ret
            exact ⟨rfl, e12⟩
        · clear G3'
          cases ea
          · obtain rfl := G5.out (by simp)
            go_wp2_with fail
            refine (Ea.out _).mono ?_
            rintro e v13 ⟨rfl, bb⟩
            have e13 := bthen e3 bb
            replace a0 := cell_on a0 bb
            replace a1 := cell_on a1 bb
            replace a2 := cell_on a2 bb
            replace c0 := cell_on c0 bb
            replace c1 := cell_on c1 bb
            replace c2 := cell_on c2 bb
            clear bb e3
            go_wp2_with fail
            refine (Hl.out _).mono ?_
            rintro e v14 ⟨rfl, bb⟩
            have e14 := bthen e13 bb
            replace a0 := cell_on a0 bb
            replace a1 := cell_on a1 bb
            replace a2 := cell_on a2 bb
            replace c0 := cell_on c0 bb
            replace c1 := cell_on c1 bb
            replace c2 := cell_on c2 bb
            clear bb e13
            go_wp2
            go_ret
            exact ⟨rfl, e14⟩
          · obtain ⟨rfl, rfl⟩ := G4.out (by simp)
            go_wp2_with fail
            refine (Ea.out _).mono ?_
            rintro e v15 ⟨rfl, bb⟩
            have e15 := bthen e3 bb
            replace a0 := cell_on a0 bb
            replace a1 := cell_on a1 bb
            replace a2 := cell_on a2 bb
            replace c0 := cell_on c0 bb
            replace c1 := cell_on c1 bb
            replace c2 := cell_on c2 bb
            clear bb e3
            go_wp2_with fail
            refine (Ha.out _).mono ?_
            rintro e v16 ⟨rfl, bb⟩
            have e16 := bthen e15 bb
            replace a0 := cell_on a0 bb
            replace a1 := cell_on a1 bb
            replace a2 := cell_on a2 bb
            replace c0 := cell_on c0 bb
            replace c1 := cell_on c1 bb
            replace c2 := cell_on c2 bb
            clear bb e15
            go_wp2_with fail
            refine (Hl.out _).mono ?_
            rintro e v17 ⟨rfl, bb⟩
            have e17 := bthen e16 bb
            replace a0 := cell_on a0 bb
            replace a1 := cell_on a1 bb
            replace a2 := cell_on a2 bb
            replace c0 := cell_on c0 bb
            replace c1 := cell_on c1 bb
            replace c2 := cell_on c2 bb
            clear bb e16
            go_wp2
            go_ret
            exact ⟨rfl, e17⟩
      · obtain rfl := G6.out hca
        obtain ⟨rfl, rfl⟩ := G4.out (by simp)
        clear G3'
        go_wp2_with fail
        refine (Ea.out _).mono ?_
        rintro e v18 ⟨rfl, bb⟩
        have e18 := bthen e2 bb
        replace a0 := cell_on a0 bb
        replace a1 := cell_on a1 bb
        replace a2 := cell_on a2 bb
        replace c0 := cell_on c0 bb
        replace c1 := cell_on c1 bb
        replace c2 := cell_on c2 bb
        clear bb e2
        go_wp2_with fail
        refine (Ha.out _).mono ?_
        rintro e v19 ⟨rfl, bb⟩
        have e19 := bthen e18 bb
        replace a0 := cell_on a0 bb
        replace a1 := cell_on a1 bb
        replace a2 := cell_on a2 bb
        replace c0 := cell_on c0 bb
        replace c1 := cell_on c1 bb
        replace c2 := cell_on c2 bb
        clear bb e18
        go_wp2_with fail
        refine (Hl.out _).mono ?_
        rintro e v20 ⟨rfl, bb⟩
        have e20 := bthen e19 bb
        replace a0 := cell_on a0 bb
        replace a1 := cell_on a1 bb
        replace a2 := cell_on a2 bb
        replace c0 := cell_on c0 bb
        replace c1 := cell_on c1 bb
        replace c2 := cell_on c2 bb
        clear bb e19
        go_wp2
        go_ret
        exact ⟨rfl, e20⟩
    · obtain ⟨⟨rfl, rfl⟩, G2'⟩ := G2.out (by simp)
      have G7 := aside G2'
      clear G2' G2 G3 G6
      go_wp2_with fail
      refine (Ha.out _).mono ?_
      rintro e v21 ⟨rfl, bb⟩
      have e21 := bthen e1 bb
      replace a0 := cell_on a0 bb
      replace a1 := cell_on a1 bb
      replace a2 := cell_on a2 bb
      replace c0 := cell_on c0 bb
      replace c1 := cell_on c1 bb
      replace c2 := cell_on c2 bb
      clear bb e1
      cases ha
      · clear G7
        go_wp2_with fail
        refine (Ca.out _).mono ?_
        rintro e v22 ⟨rfl, bb⟩
        have e22 := bthen e21 bb
        replace a0 := cell_on a0 bb
        replace a1 := cell_on a1 bb
        replace a2 := cell_on a2 bb
        replace c0 := cell_on c0 bb
        replace c1 := cell_on c1 bb
        replace c2 := cell_on c2 bb
        clear bb e21
        go_wp2_with fail
        refine (Cb.out _).mono ?_
        rintro e v23 ⟨rfl, bb⟩
        have e23 := bthen e22 bb
        replace a0 := cell_on a0 bb
        replace a1 := cell_on a1 bb
        replace a2 := cell_on a2 bb
        replace c0 := cell_on c0 bb
        replace c1 := cell_on c1 bb
        replace c2 := cell_on c2 bb
        clear bb e22
        cases ea
        · obtain rfl := G5.out (by simp)
          go_wp2_with fail
          refine (Ea.out _).mono ?_
          rintro e v24 ⟨rfl, bb⟩
          have e24 := bthen e23 bb
          replace a0 := cell_on a0 bb
          replace a1 := cell_on a1 bb
          replace a2 := cell_on a2 bb
          replace c0 := cell_on c0 bb
          replace c1 := cell_on c1 bb
          replace c2 := cell_on c2 bb
          clear bb e23
          go_wp2_with fail
          refine (Hl.out _).mono ?_
          rintro e v25 ⟨rfl, bb⟩
          have e25 := bthen e24 bb
          replace a0 := cell_on a0 bb
          replace a1 := cell_on a1 bb
          replace a2 := cell_on a2 bb
          replace c0 := cell_on c0 bb
          replace c1 := cell_on c1 bb
          replace c2 := cell_on c2 bb
          clear bb e24
          go_wp2
          go_ret
          exact ⟨rfl, e25⟩
        · obtain ⟨-, rfl⟩ := G4.out (by simp)
          go_wp2_with fail
          refine (Ea.out _).mono ?_
          rintro e v26 ⟨rfl, bb⟩
          have e26 := bthen e23 bb
          replace a0 := cell_on a0 bb
          replace a1 := cell_on a1 bb
          replace a2 := cell_on a2 bb
          replace c0 := cell_on c0 bb
          replace c1 := cell_on c1 bb
          replace c2 := cell_on c2 bb
          clear bb e23
          go_wp2_with fail
          refine (Ha.out _).mono ?_
          rintro e v27 ⟨rfl, bb⟩
          have e27 := bthen e26 bb
          replace a0 := cell_on a0 bb
          replace a1 := cell_on a1 bb
          replace a2 := cell_on a2 bb
          replace c0 := cell_on c0 bb
          replace c1 := cell_on c1 bb
          replace c2 := cell_on c2 bb
          clear bb e26
          go_wp2_with fail
          refine (Hl.out _).mono ?_
          rintro e v28 ⟨rfl, bb⟩
          have e28 := bthen e27 bb
          replace a0 := cell_on a0 bb
          replace a1 := cell_on a1 bb
          replace a2 := cell_on a2 bb
          replace c0 := cell_on c0 bb
          replace c1 := cell_on c1 bb
          replace c2 := cell_on c2 bb
          clear bb e27
          go_wp2
          go_ret
          exact ⟨rfl, e28⟩
      · obtain rfl := G7.out (by simp)
        clear G7
        go_wp2_with fail
        refine (Hb.out _).mono ?_
        rintro e v29 ⟨rfl, bb⟩
        have e29 := bthen e21 bb
        replace a0 := cell_on a0 bb
        replace a1 := cell_on a1 bb
        replace a2 := cell_on a2 bb
        replace c0 := cell_on c0 bb
        replace c1 := cell_on c1 bb
        replace c2 := cell_on c2 bb
        clear bb e21
        go_wp2_with fail
        refine (Ca.out _).mono ?_
        rintro e v30 ⟨rfl, bb⟩
        have e30 := bthen e29 bb
        replace a0 := cell_on a0 bb
        replace a1 := cell_on a1 bb
        replace a2 := cell_on a2 bb
        replace c0 := cell_on c0 bb
        replace c1 := cell_on c1 bb
        replace c2 := cell_on c2 bb
        clear bb e29
        go_wp2_with fail
        refine (Cb.out _).mono ?_
        rintro e v31 ⟨rfl, bb⟩
        have e31 := bthen e30 bb
        replace a0 := cell_on a0 bb
        replace a1 := cell_on a1 bb
        replace a2 := cell_on a2 bb
        replace c0 := cell_on c0 bb
        replace c1 := cell_on c1 bb
        replace c2 := cell_on c2 bb
        clear bb e30
        cases ea
        · obtain rfl := G5.out (by simp)
          go_wp2_with fail
          refine (Ea.out _).mono ?_
          rintro e v32 ⟨rfl, bb⟩
          have e32 := bthen e31 bb
          replace a0 := cell_on a0 bb
          replace a1 := cell_on a1 bb
          replace a2 := cell_on a2 bb
          replace c0 := cell_on c0 bb
          replace c1 := cell_on c1 bb
          replace c2 := cell_on c2 bb
          clear bb e31
          go_wp2_with fail
          refine (Hl.out _).mono ?_
          rintro e v33 ⟨rfl, bb⟩
          have e33 := bthen e32 bb
          replace a0 := cell_on a0 bb
          replace a1 := cell_on a1 bb
          replace a2 := cell_on a2 bb
          replace c0 := cell_on c0 bb
          replace c1 := cell_on c1 bb
          replace c2 := cell_on c2 bb
          clear bb e32
          go_wp2
          go_ret
          exact ⟨rfl, e33⟩
        · obtain ⟨h, -⟩ := G4.out (by simp)
          cases h
  clear hK1 Wi Ea Hl Gl Hh Gh Ca Cb G2 G3 G4 G5 G6
  have S0 : Hid (Below w.heap.size w W0.drew ∧ W0.drew.cell? ⟨w.heap.size, 0, none⟩ = some (.string alo) ∧ W0.drew.cell? ⟨w.heap.size, 1, none⟩ = some (.string ahi) ∧ W0.drew.cell? ⟨w.heap.size, 2, none⟩ = some (.bool aop) ∧ W0.drew.cell? ⟨w.heap.size + 1, 0, none⟩ = some (.string blo) ∧ W0.drew.cell? ⟨w.heap.size + 1, 1, none⟩ = some (.string bhi) ∧ W0.drew.cell? ⟨w.heap.size + 1, 2, none⟩ = some (.bool bop) ∧ W0.drew.cell? ⟨w2.heap.size, 0, none⟩ = some (.string xlo) ∧ W0.drew.cell? ⟨w2.heap.size, 1, none⟩ = some (.string xhi) ∧ W0.drew.cell? ⟨w2.heap.size, 2, none⟩ = some (.bool xop)) := ⟨b03.drew, XA.1, XA.2.1, XA.2.2, XB.1, XB.2.1, XB.2.2, XX⟩
  clear XA XB XX b03
  cases is
  · clear Hm
    cases ha
    · clear Hb
      obtain ⟨-, a0, a1, a2, c0, c1, c2, x0, x1, x2⟩ := S0.out
      first | go_region_with (first | (go_at_call 14; refine (Ha.out _).mono ?_; clear Ha; rintro e w3 ⟨rfl, bb⟩; have S1 := keep3 S0.out bb; clear S0 a0 a1 a2 c0 c1 c2 x0 x1 x2; have S0 := aside S1; obtain ⟨-, a0, a1, a2, c0, c1, c2, x0, x1, x2⟩ := S1)) | fail
      all_goals
        go_wp2
        have hh := S0.out
        exact HK _ _ _ _ _ _ _ _ _ _ _ _ _ _ _ _ hh.1 hh.2.1 hh.2.2.1 hh.2.2.2.1 hh.2.2.2.2.1 hh.2.2.2.2.2.1 hh.2.2.2.2.2.2.1
    · cases hb
      · obtain ⟨-, a0, a1, a2, c0, c1, c2, x0, x1, x2⟩ := S0.out
        first | go_region_with (first | (go_at_call 14; refine (Ha.out _).mono ?_; clear Ha; rintro e w3 ⟨rfl, bb⟩; have S1 := keep3 S0.out bb; clear S0 a0 a1 a2 c0 c1 c2 x0 x1 x2; have S0 := aside S1; obtain ⟨-, a0, a1, a2, c0, c1, c2, x0, x1, x2⟩ := S1) | (go_at_call 14; refine (Hb.out _).mono ?_; clear Hb; rintro e w3 ⟨rfl, bb⟩; have S1 := keep3 S0.out bb; clear S0 a0 a1 a2 c0 c1 c2 x0 x1 x2; have S0 := aside S1; obtain ⟨-, a0, a1, a2, c0, c1, c2, x0, x1, x2⟩ := S1)) | fail
        all_goals
          go_wp2
          have hh := S0.out
          exact HK _ _ _ _ _ _ _ _ _ _ _ _ _ _ _ _ hh.1 hh.2.1 hh.2.2.1 hh.2.2.2.1 hh.2.2.2.2.1 hh.2.2.2.2.2.1 hh.2.2.2.2.2.2.1
      · exact absurd G1.out (by simp)
  · cases ha
    · obtain rfl : hm = false := by simpa using G1.out
      clear Hb
      obtain ⟨-, a0, a1, a2, c0, c1, c2, x0, x1, x2⟩ := S0.out
      first | go_region_with (first | (go_at_call 14; refine (Hm.out _).mono ?_; clear Hm; rintro e w3 ⟨rfl, bb⟩; have S1 := keep3 S0.out bb; clear S0 a0 a1 a2 c0 c1 c2 x0 x1 x2; have S0 := aside S1; obtain ⟨-, a0, a1, a2, c0, c1, c2, x0, x1, x2⟩ := S1) | (go_at_call 14; refine (Ha.out _).mono ?_; clear Ha; rintro e w3 ⟨rfl, bb⟩; have S1 := keep3 S0.out bb; clear S0 a0 a1 a2 c0 c1 c2 x0 x1 x2; have S0 := aside S1; obtain ⟨-, a0, a1, a2, c0, c1, c2, x0, x1, x2⟩ := S1)) | fail
      all_goals
        go_wp2
        have hh := S0.out
        exact HK _ _ _ _ _ _ _ _ _ _ _ _ _ _ _ _ hh.1 hh.2.1 hh.2.2.1 hh.2.2.2.1 hh.2.2.2.2.1 hh.2.2.2.2.2.1 hh.2.2.2.2.2.2.1
    · obtain rfl : hm = hb := by simpa using G1.out
      cases hm
      · go_region_held3 (fun W => Below w.heap.size w W ∧ W.cell? ⟨w.heap.size, 0, none⟩ = some (.string alo) ∧ W.cell? ⟨w.heap.size, 1, none⟩ = some (.string ahi) ∧ W.cell? ⟨w.heap.size, 2, none⟩ = some (.bool aop) ∧ W.cell? ⟨w.heap.size + 1, 0, none⟩ = some (.string blo) ∧ W.cell? ⟨w.heap.size + 1, 1, none⟩ = some (.string bhi) ∧ W.cell? ⟨w.heap.size + 1, 2, none⟩ = some (.bool bop) ∧ W.cell? ⟨w2.heap.size, 0, none⟩ = some (.string xlo) ∧ W.cell? ⟨w2.heap.size, 1, none⟩ = some (.string xhi) ∧ W.cell? ⟨w2.heap.size, 2, none⟩ = some (.bool xop)) (first | (exact keep3 (by assumption) bb) | (exact S0.out) | assumption | go_keep)
          (first | (go_at_call 14; refine (Hm.out _).mono ?_; clear Hm; rintro e w3 ⟨rfl, bb⟩) | (go_at_call 14; refine (Ha.out _).mono ?_; clear Ha; rintro e w3 ⟨rfl, bb⟩) | (go_at_call 14; refine (Hb.out _).mono ?_; clear Hb; rintro e w3 ⟨rfl, bb⟩))
        all_goals
          go_wp2
          rename_i hh
          exact HK _ _ _ _ _ _ _ _ _ _ _ _ _ _ _ _ hh.1 hh.2.1 hh.2.2.1 hh.2.2.2.1 hh.2.2.2.2.1 hh.2.2.2.2.2.1 hh.2.2.2.2.2.2.1
      · go_region_held3 (fun W => Below w.heap.size w W ∧ W.cell? ⟨w.heap.size, 0, none⟩ = some (.string alo) ∧ W.cell? ⟨w.heap.size, 1, none⟩ = some (.string ahi) ∧ W.cell? ⟨w.heap.size, 2, none⟩ = some (.bool aop) ∧ W.cell? ⟨w.heap.size + 1, 0, none⟩ = some (.string blo) ∧ W.cell? ⟨w.heap.size + 1, 1, none⟩ = some (.string bhi) ∧ W.cell? ⟨w.heap.size + 1, 2, none⟩ = some (.bool bop) ∧ W.cell? ⟨w2.heap.size, 0, none⟩ = some (.string xlo) ∧ W.cell? ⟨w2.heap.size, 1, none⟩ = some (.string xhi) ∧ W.cell? ⟨w2.heap.size, 2, none⟩ = some (.bool xop)) (first | (exact keep3 (by assumption) bb) | (exact S0.out) | assumption | go_keep)
          (first | (go_at_call 14; refine (Hm.out _).mono ?_; clear Hm; rintro e w3 ⟨rfl, bb⟩) | (go_at_call 14; refine (Ha.out _).mono ?_; clear Ha; rintro e w3 ⟨rfl, bb⟩) | (go_at_call 14; refine (Hb.out _).mono ?_; clear Hb; rintro e w3 ⟨rfl, bb⟩))
        all_goals
          go_wp2
          rename_i hh
          exact HK _ _ _ _ _ _ _ _ _ _ _ _ _ _ _ _ hh.1 hh.2.1 hh.2.2.1 hh.2.2.2.1 hh.2.2.2.2.1 hh.2.2.2.2.2.1 hh.2.2.2.2.2.2.1

end Go.Proofs.Ytidajlnaehhkkaa

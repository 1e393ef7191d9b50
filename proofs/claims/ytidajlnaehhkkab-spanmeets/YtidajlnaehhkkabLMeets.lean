/-
  The law SpanMeets, walked: it returns true at any three ranges.
-/
import Derived.Test.YtidajlnaehhkkabLKeep
import Derived.Test.YtidajlnaehhkkabSAlg4
import Derived.Deep.RegionHeld3
namespace Go.Proofs.Ytidajlnaehhkkab
open Go.RowKit

set_option maxRecDepth 100000 in
set_option maxHeartbeats 12800000 in
theorem meets_walk (alo ahi blo bhi clo chi : ByteArray) (aop bop cop : Bool) (w : World) (hw : MaxAt w) :
    Calls Try.prog 5 #[.agg #[.string alo, .string ahi, .bool aop], .agg #[.string blo, .string bhi, .bool bop], .agg #[.string clo, .string chi, .bool cop]] w fun e w' => e = .returned (.bool true) ∧ Below w.heap.size w w' := by
  have hmM := meetV_eq (Rg.meet ⟨alo, ahi, aop⟩ ⟨blo, bhi, bop⟩)
  obtain ⟨mlo, hm1⟩ : ∃ v, metLo (Rg.meet ⟨alo, ahi, aop⟩ ⟨blo, bhi, bop⟩) = v := ⟨_, rfl⟩
  obtain ⟨mhi, hm2⟩ : ∃ v, metHi (Rg.meet ⟨alo, ahi, aop⟩ ⟨blo, bhi, bop⟩) = v := ⟨_, rfl⟩
  obtain ⟨mop, hm3⟩ : ∃ v, metOp (Rg.meet ⟨alo, ahi, aop⟩ ⟨blo, bhi, bop⟩) = v := ⟨_, rfl⟩
  obtain ⟨is, hm4⟩ : ∃ v, metIs (Rg.meet ⟨alo, ahi, aop⟩ ⟨blo, bhi, bop⟩) = v := ⟨_, rfl⟩
  rw [hm1, hm2, hm3, hm4] at hmM
  have hyM := meetV_eq (Rg.meet ⟨blo, bhi, bop⟩ ⟨clo, chi, cop⟩)
  obtain ⟨ylo, hy1⟩ : ∃ v, metLo (Rg.meet ⟨blo, bhi, bop⟩ ⟨clo, chi, cop⟩) = v := ⟨_, rfl⟩
  obtain ⟨yhi, hy2⟩ : ∃ v, metHi (Rg.meet ⟨blo, bhi, bop⟩ ⟨clo, chi, cop⟩) = v := ⟨_, rfl⟩
  obtain ⟨yop, hy3⟩ : ∃ v, metOp (Rg.meet ⟨blo, bhi, bop⟩ ⟨clo, chi, cop⟩) = v := ⟨_, rfl⟩
  obtain ⟨also, hy4⟩ : ∃ v, metIs (Rg.meet ⟨blo, bhi, bop⟩ ⟨clo, chi, cop⟩) = v := ⟨_, rfl⟩
  rw [hy1, hy2, hy3, hy4] at hyM
  have hxM := meetV_eq (Rg.meet ⟨mlo, mhi, mop⟩ ⟨clo, chi, cop⟩)
  obtain ⟨xlo, hx1⟩ : ∃ v, metLo (Rg.meet ⟨mlo, mhi, mop⟩ ⟨clo, chi, cop⟩) = v := ⟨_, rfl⟩
  obtain ⟨xhi, hx2⟩ : ∃ v, metHi (Rg.meet ⟨mlo, mhi, mop⟩ ⟨clo, chi, cop⟩) = v := ⟨_, rfl⟩
  obtain ⟨xop, hx3⟩ : ∃ v, metOp (Rg.meet ⟨mlo, mhi, mop⟩ ⟨clo, chi, cop⟩) = v := ⟨_, rfl⟩
  obtain ⟨ok, hx4⟩ : ∃ v, metIs (Rg.meet ⟨mlo, mhi, mop⟩ ⟨clo, chi, cop⟩) = v := ⟨_, rfl⟩
  rw [hx1, hx2, hx3, hx4] at hxM
  have hzM := meetV_eq (Rg.meet ⟨alo, ahi, aop⟩ ⟨ylo, yhi, yop⟩)
  obtain ⟨zlo, hz1⟩ : ∃ v, metLo (Rg.meet ⟨alo, ahi, aop⟩ ⟨ylo, yhi, yop⟩) = v := ⟨_, rfl⟩
  obtain ⟨zhi, hz2⟩ : ∃ v, metHi (Rg.meet ⟨alo, ahi, aop⟩ ⟨ylo, yhi, yop⟩) = v := ⟨_, rfl⟩
  obtain ⟨zop, hz3⟩ : ∃ v, metOp (Rg.meet ⟨alo, ahi, aop⟩ ⟨ylo, yhi, yop⟩) = v := ⟨_, rfl⟩
  obtain ⟨too, hz4⟩ : ∃ v, metIs (Rg.meet ⟨alo, ahi, aop⟩ ⟨ylo, yhi, yop⟩) = v := ⟨_, rfl⟩
  rw [hz1, hz2, hz3, hz4] at hzM
  obtain ⟨wab, ewab⟩ : ∃ q, withR ⟨alo, ahi, aop⟩ ⟨blo, bhi, bop⟩ = q := ⟨_, rfl⟩
  obtain ⟨wba, ewba⟩ : ∃ q, withR ⟨blo, bhi, bop⟩ ⟨alo, ahi, aop⟩ = q := ⟨_, rfl⟩
  obtain ⟨wbc, ewbc⟩ : ∃ q, withR ⟨blo, bhi, bop⟩ ⟨clo, chi, cop⟩ = q := ⟨_, rfl⟩
  obtain ⟨wac, ewac⟩ : ∃ q, withR ⟨alo, ahi, aop⟩ ⟨clo, chi, cop⟩ = q := ⟨_, rfl⟩
  obtain ⟨wca, ewca⟩ : ∃ q, withR ⟨clo, chi, cop⟩ ⟨alo, ahi, aop⟩ = q := ⟨_, rfl⟩
  obtain ⟨wcb, ewcb⟩ : ∃ q, withR ⟨clo, chi, cop⟩ ⟨blo, bhi, bop⟩ = q := ⟨_, rfl⟩
  obtain ⟨wcm, ewcm⟩ : ∃ q, withR ⟨clo, chi, cop⟩ ⟨mlo, mhi, mop⟩ = q := ⟨_, rfl⟩
  obtain ⟨waa, ewaa⟩ : ∃ q, withR ⟨alo, ahi, aop⟩ ⟨alo, ahi, aop⟩ = q := ⟨_, rfl⟩
  obtain ⟨ea, eea⟩ : ∃ q, Rg.emp ⟨alo, ahi, aop⟩ = q := ⟨_, rfl⟩
  obtain ⟨eb, eeb⟩ : ∃ q, Rg.emp ⟨blo, bhi, bop⟩ = q := ⟨_, rfl⟩
  obtain ⟨ec, eec⟩ : ∃ q, Rg.emp ⟨clo, chi, cop⟩ = q := ⟨_, rfl⟩
  obtain ⟨ca, eca⟩ : ∃ q, Rg.chk ⟨alo, ahi, aop⟩ = q := ⟨_, rfl⟩
  obtain ⟨cb, ecb⟩ : ∃ q, Rg.chk ⟨blo, bhi, bop⟩ = q := ⟨_, rfl⟩
  obtain ⟨cc, ecc⟩ : ∃ q, Rg.chk ⟨clo, chi, cop⟩ = q := ⟨_, rfl⟩
  have may_of : ∀ r : Rg, r.chk = 0 → r.may = true := fun r h => by unfold Rg.may; rw [h]; rfl
  have G1 : Hid (ca = 0 → cb = 0 → ec = false → (is && wcm) = (wca && wcb)) := aside (fun h1 h2 h3 => by
    have := with_meet (may_of _ (eca.trans h1)) (may_of _ (ecb.trans h2)) (eec.trans h3)
    rw [hm1, hm2, hm3, hm4, ewcm, ewca, ewcb] at this; exact this)
  have G2 : Hid (wab = true → wbc = true → wac = true) := aside (fun h1 h2 => ewac.symm.trans (with_trans (ewab.trans h1) (ewbc.trans h2)))
  have G3 : Hid (ca = 0 → waa = true) := aside (fun h1 => ewaa.symm.trans (with_refl (may_of _ (eca.trans h1))))
  have G4 : Hid (wab = true → wba = true → ((⟨alo, ahi, aop⟩ : Rg) = ⟨blo, bhi, bop⟩) ∨ (ea = true ∧ eb = true)) := aside (fun h1 h2 => by
    rcases with_anti (ewab.trans h1) (ewba.trans h2) with h | ⟨h, h'⟩
    · exact .inl h
    · exact .inr ⟨eea.symm.trans h, eeb.symm.trans h'⟩)
  have G5 : Hid (is = true → also = true → xlo = zlo ∧ xhi = zhi ∧ xop = zop ∧ ok = too) := aside (fun h1 h2 => by
    have := meet_assoc (hm4.trans h1) (hy4.trans h2)
    rw [hm1, hm2, hm3, hy1, hy2, hy3] at this
    rw [← hx1, ← hx2, ← hx3, ← hx4, ← hz1, ← hz2, ← hz3, ← hz4, this]
    exact ⟨rfl, rfl, rfl, rfl⟩)
  have G6 : Hid (¬ ca = 0 → wab = false) := aside (fun h => by
    cases e : wab
    · rfl
    · exact absurd (eca.symm.trans (may_chk (with_may (ewab.trans e)).1)) h)
  have G7 : Hid (¬ cb = 0 → wab = false) := aside (fun h => by
    cases e : wab
    · rfl
    · exact absurd (ecb.symm.trans (may_chk (with_may (ewab.trans e)).2)) h)
  have G8 : Hid (¬ cc = 0 → wbc = false) := aside (fun h => by
    cases e : wbc
    · rfl
    · exact absurd (ecc.symm.trans (may_chk (with_may (ewbc.trans e)).2)) h)
  have Twab := aside (fun w => within_at ewab w)
  have Twba := aside (fun w => within_at ewba w)
  have Twbc := aside (fun w => within_at ewbc w)
  have Twac := aside (fun w => within_at ewac w)
  have Twca := aside (fun w => within_at ewca w)
  have Twcb := aside (fun w => within_at ewcb w)
  have Twcm := aside (fun w => within_at ewcm w)
  have Twaa := aside (fun w => within_at ewaa w)
  have Tea := aside (fun w => empty_at eea w)
  have Teb := aside (fun w => empty_at eeb w)
  have Tec := aside (fun w => empty_at eec w)
  have Tca := aside (fun w => check_at eca w)
  have Tcb := aside (fun w => check_at ecb w)
  have Tcc := aside (fun w => check_at ecc w)
  have Tm := aside (fun w => meet_at hmM w)
  have Ty := aside (fun w => meet_at hyM w)
  have Tx := aside (fun w => meet_at hxM w)
  have Tz := aside (fun w => meet_at hzM w)
  have C0 := aside (fun w h => shown_any w h)
  have HW := aside hw
  clear hw may_of hmM hm1 hm2 hm3 hm4 hyM hy1 hy2 hy3 hy4 hxM hx1 hx2 hx3 hx4 hzM hz1 hz2 hz3 hz4 ewab ewba ewbc ewac ewca ewcb ewcm ewaa eea eeb eec eca ecb ecc
  go_enter Try.func5, Try.ntmps5
  go_wp2_with fail
  refine (C0.out _ (HW.out.below (bthen (bthen (bnew w _) (bnew _ _)) (bnew _ _)))).mono ?_
  rintro e w1 ⟨rfl, b1⟩
  obtain ⟨kA, kB, kC, b01⟩ := three_new b1
  obtain ⟨⟨a0, a1, a2⟩, -⟩ := box_out kA
  obtain ⟨⟨c0, c1, c2⟩, -⟩ := box_out kB
  obtain ⟨⟨d0, d1, d2⟩, -⟩ := box_out kC
  clear b1 kA kB kC HW C0
  go_wp2_with fail
  refine (Tca.out _).mono ?_
  rintro e v1 ⟨rfl, bb⟩
  have e1 := bthen b01 bb
  replace a0 := cell_on a0 bb
  replace a1 := cell_on a1 bb
  replace a2 := cell_on a2 bb
  replace c0 := cell_on c0 bb
  replace c1 := cell_on c1 bb
  replace c2 := cell_on c2 bb
  replace d0 := cell_on d0 bb
  replace d1 := cell_on d1 bb
  replace d2 := cell_on d2 bb
  clear bb b01
  by_cases hca : ca = 0
  · subst hca
    go_wp2_with fail
    refine (Tcb.out _).mono ?_
    rintro e v3 ⟨rfl, bb⟩
    have e3 := bthen e1 bb
    replace a0 := cell_on a0 bb
    replace a1 := cell_on a1 bb
    replace a2 := cell_on a2 bb
    replace c0 := cell_on c0 bb
    replace c1 := cell_on c1 bb
    replace c2 := cell_on c2 bb
    replace d0 := cell_on d0 bb
    replace d1 := cell_on d1 bb
    replace d2 := cell_on d2 bb
    clear bb e1
    by_cases hcb : cb = 0
    · subst hcb
      go_wp2_with fail
      refine (Tcc.out _).mono ?_
      rintro e v4 ⟨rfl, bb⟩
      have e4 := bthen e3 bb
      replace a0 := cell_on a0 bb
      replace a1 := cell_on a1 bb
      replace a2 := cell_on a2 bb
      replace c0 := cell_on c0 bb
      replace c1 := cell_on c1 bb
      replace c2 := cell_on c2 bb
      replace d0 := cell_on d0 bb
      replace d1 := cell_on d1 bb
      replace d2 := cell_on d2 bb
      clear bb e3
      by_cases hcc : cc = 0
      · subst hcc
        obtain rfl := G3.out (by simp)
        clear G3 G6 G7 G8
        go_wp2_with fail
        refine (Tm.out _).mono ?_
        rintro e v5 ⟨rfl, bb⟩
        have e5 := bthen e4 bb
        replace a0 := cell_on a0 bb
        replace a1 := cell_on a1 bb
        replace a2 := cell_on a2 bb
        replace c0 := cell_on c0 bb
        replace c1 := cell_on c1 bb
        replace c2 := cell_on c2 bb
        replace d0 := cell_on d0 bb
        replace d1 := cell_on d1 bb
        replace d2 := cell_on d2 bb
        clear bb e4
        have b10 := bthen e5 (bnew v5 (.cells #[.string mlo, .string mhi, .bool mop] 23))
        have XM := (box_out (heap_new v5 (.cells #[.string mlo, .string mhi, .bool mop] 23))).1
        have a0' := cell_on a0 (bnew v5 (.cells #[.string mlo, .string mhi, .bool mop] 23))
        have a1' := cell_on a1 (bnew v5 (.cells #[.string mlo, .string mhi, .bool mop] 23))
        have a2' := cell_on a2 (bnew v5 (.cells #[.string mlo, .string mhi, .bool mop] 23))
        have c0' := cell_on c0 (bnew v5 (.cells #[.string mlo, .string mhi, .bool mop] 23))
        have c1' := cell_on c1 (bnew v5 (.cells #[.string mlo, .string mhi, .bool mop] 23))
        have c2' := cell_on c2 (bnew v5 (.cells #[.string mlo, .string mhi, .bool mop] 23))
        have d0' := cell_on d0 (bnew v5 (.cells #[.string mlo, .string mhi, .bool mop] 23))
        have d1' := cell_on d1 (bnew v5 (.cells #[.string mlo, .string mhi, .bool mop] 23))
        have d2' := cell_on d2 (bnew v5 (.cells #[.string mlo, .string mhi, .bool mop] 23))
        clear e5 a0 a1 a2 c0 c1 c2 d0 d1 d2 Tca Tcb Tcc Tm
        obtain ⟨m0, m1, m2⟩ := XM
        go_wp2_with fail
        generalize v5.alloc (.cells #[.string mlo, .string mhi, .bool mop] 23) = W0 at *
        generalize v5.heap.size = pm at *
        rename_i KA hKA K6 hK6
        have HKA : ∀ (u15 u16 u17 u18 u19 u20 u21 u22 u23 u24 u25 u26 u27 u28 u29 u30 u31 u32 u33 u34 u35 u36 u37 u38 u39 u40 u41 u42 u43 u44 u45 u46 u47 u48 u49 u50 u51 u52 u53 u54 u55 u56 u57 u58 u59 u60 u61 u62 u63 u64 u65 u66 u67 u68 u69 u70 u71 u72 u73 u74 u75 u76 u77 u78 u79 u80 u81 u82 u83 u84 u85 u86 u87 u88 u89 u90 u91 u92 u93 u94 u95 u96 u97 u98 u99 u100 u101 u102 u103 u104 u105 u106 u107 u108 u109 u110 u111 u112 u113 u114 u115 u116 u117 u118 u119 u120 u121 u122 u123 u124 u125 u126 u127 u128 u129 u130 u131 u132 u133 u134 u135 u136 u137 u138 u139 u140 u141 u142 u143 u144 u145 u146 u147 : Value) (W : World), Below w.heap.size w W → W.cell? ⟨w.heap.size, 0, none⟩ = some (.string alo) → W.cell? ⟨w.heap.size, 1, none⟩ = some (.string ahi) → W.cell? ⟨w.heap.size, 2, none⟩ = some (.bool aop) → W.cell? ⟨w.heap.size + 1, 0, none⟩ = some (.string blo) → W.cell? ⟨w.heap.size + 1, 1, none⟩ = some (.string bhi) → W.cell? ⟨w.heap.size + 1, 2, none⟩ = some (.bool bop) → W.cell? ⟨w.heap.size + 1 + 1, 0, none⟩ = some (.string clo) → W.cell? ⟨w.heap.size + 1 + 1, 1, none⟩ = some (.string chi) → W.cell? ⟨w.heap.size + 1 + 1, 2, none⟩ = some (.bool cop) → W.cell? ⟨pm, 0, none⟩ = some (.string mlo) → W.cell? ⟨pm, 1, none⟩ = some (.string mhi) → W.cell? ⟨pm, 2, none⟩ = some (.bool mop) → KA { tmps := #[.agg #[.string alo, .string ahi, .bool aop], .agg #[.string blo, .string bhi, .bool bop], .agg #[.string clo, .string chi, .bool cop], .pointer (some ⟨w.heap.size, 0, none⟩), .pointer (some ⟨w.heap.size + 1, 0, none⟩), .pointer (some ⟨w.heap.size + 1 + 1, 0, none⟩), .bool false, .pointer (some ⟨pm, 0, none⟩), .bool is, undef, undef, undef, undef, undef, undef, u15, u16, u17, u18, u19, u20, u21, u22, u23, u24, u25, u26, u27, u28, u29, u30, u31, u32, u33, u34, u35, u36, u37, u38, u39, u40, u41, u42, u43, u44, u45, u46, u47, u48, u49, u50, u51, u52, u53, u54, u55, u56, u57, u58, u59, u60, u61, u62, u63, u64, u65, u66, u67, u68, u69, u70, u71, u72, u73, u74, u75, u76, u77, u78, u79, u80, u81, u82, u83, u84, u85, u86, u87, u88, u89, u90, u91, u92, u93, u94, u95, u96, u97, u98, u99, u100, u101, u102, u103, u104, u105, u106, u107, u108, u109, u110, u111, u112, u113, u114, u115, u116, u117, u118, u119, u120, u121, u122, u123, u124, u125, u126, u127, u128, u129, u130, u131, u132, u133, u134, u135, u136, u137, u138, u139, u140, u141, u142, u143, u144, u145, u146, u147], defers := [] } W := by
          intro u15 u16 u17 u18 u19 u20 u21 u22 u23 u24 u25 u26 u27 u28 u29 u30 u31 u32 u33 u34 u35 u36 u37 u38 u39 u40 u41 u42 u43 u44 u45 u46 u47 u48 u49 u50 u51 u52 u53 u54 u55 u56 u57 u58 u59 u60 u61 u62 u63 u64 u65 u66 u67 u68 u69 u70 u71 u72 u73 u74 u75 u76 u77 u78 u79 u80 u81 u82 u83 u84 u85 u86 u87 u88 u89 u90 u91 u92 u93 u94 u95 u96 u97 u98 u99 u100 u101 u102 u103 u104 u105 u106 u107 u108 u109 u110 u111 u112 u113 u114 u115 u116 u117 u118 u119 u120 u121 u122 u123 u124 u125 u126 u127 u128 u129 u130 u131 u132 u133 u134 u135 u136 u137 u138 u139 u140 u141 u142 u143 u144 u145 u146 u147 W b0 a0 a1 a2 c0 c1 c2 d0 d1 d2 m0 m1 m2
          clear b10 a0' a1' a2' c0' c1' c2' d0' d1' d2' G1 Twca Twcb Twcm Tec hK6
          apply hKA
          clear hKA
          go_wp2_with fail
          rename_i KB hKB K8 hK8 KL hKL
          have HKB : ∀ (u15 u16 u17 u18 u19 u20 u21 u22 u23 u24 u25 u26 u27 u28 u29 u30 u31 u32 u33 u34 u35 u36 u37 u38 u39 u40 u41 u42 u43 u44 u45 u46 u47 u48 u49 u50 u51 u52 u53 u54 u55 u56 u57 u58 u59 u60 u61 u62 u63 u64 u65 u66 u67 u68 u69 u70 u71 u72 u73 u74 u75 u76 u77 u78 u79 u80 u81 u82 u83 u84 u85 u86 u87 u88 u89 u90 u91 u92 u93 u94 u95 u96 u97 u98 u99 u100 u101 u102 u103 u104 u105 u106 u107 u108 u109 u110 u111 u112 u113 u114 u115 u116 u117 u118 u119 u120 u121 u122 u123 u124 u125 u126 u127 u128 u129 u130 u131 u132 u133 u134 u135 u136 u137 u138 u139 u140 u141 u142 u143 u144 u145 u146 u147 : Value) (W : World), Below w.heap.size w W → W.cell? ⟨w.heap.size, 0, none⟩ = some (.string alo) → W.cell? ⟨w.heap.size, 1, none⟩ = some (.string ahi) → W.cell? ⟨w.heap.size, 2, none⟩ = some (.bool aop) → W.cell? ⟨w.heap.size + 1, 0, none⟩ = some (.string blo) → W.cell? ⟨w.heap.size + 1, 1, none⟩ = some (.string bhi) → W.cell? ⟨w.heap.size + 1, 2, none⟩ = some (.bool bop) → W.cell? ⟨w.heap.size + 1 + 1, 0, none⟩ = some (.string clo) → W.cell? ⟨w.heap.size + 1 + 1, 1, none⟩ = some (.string chi) → W.cell? ⟨w.heap.size + 1 + 1, 2, none⟩ = some (.bool cop) → W.cell? ⟨pm, 0, none⟩ = some (.string mlo) → W.cell? ⟨pm, 1, none⟩ = some (.string mhi) → W.cell? ⟨pm, 2, none⟩ = some (.bool mop) → KB { tmps := #[.agg #[.string alo, .string ahi, .bool aop], .agg #[.string blo, .string bhi, .bool bop], .agg #[.string clo, .string chi, .bool cop], .pointer (some ⟨w.heap.size, 0, none⟩), .pointer (some ⟨w.heap.size + 1, 0, none⟩), .pointer (some ⟨w.heap.size + 1 + 1, 0, none⟩), .bool false, .pointer (some ⟨pm, 0, none⟩), .bool is, undef, undef, undef, undef, undef, undef, u15, u16, u17, u18, u19, u20, u21, u22, u23, u24, u25, u26, u27, u28, u29, u30, u31, u32, u33, u34, u35, u36, u37, u38, u39, u40, u41, u42, u43, u44, u45, u46, u47, u48, u49, u50, u51, u52, u53, u54, u55, u56, u57, u58, u59, u60, u61, u62, u63, u64, u65, u66, u67, u68, u69, u70, u71, u72, u73, u74, u75, u76, u77, u78, u79, u80, u81, u82, u83, u84, u85, u86, u87, u88, u89, u90, u91, u92, u93, u94, u95, u96, u97, u98, u99, u100, u101, u102, u103, u104, u105, u106, u107, u108, u109, u110, u111, u112, u113, u114, u115, u116, u117, u118, u119, u120, u121, u122, u123, u124, u125, u126, u127, u128, u129, u130, u131, u132, u133, u134, u135, u136, u137, u138, u139, u140, u141, u142, u143, u144, u145, u146, u147], defers := [] } W := by
            intro u15 u16 u17 u18 u19 u20 u21 u22 u23 u24 u25 u26 u27 u28 u29 u30 u31 u32 u33 u34 u35 u36 u37 u38 u39 u40 u41 u42 u43 u44 u45 u46 u47 u48 u49 u50 u51 u52 u53 u54 u55 u56 u57 u58 u59 u60 u61 u62 u63 u64 u65 u66 u67 u68 u69 u70 u71 u72 u73 u74 u75 u76 u77 u78 u79 u80 u81 u82 u83 u84 u85 u86 u87 u88 u89 u90 u91 u92 u93 u94 u95 u96 u97 u98 u99 u100 u101 u102 u103 u104 u105 u106 u107 u108 u109 u110 u111 u112 u113 u114 u115 u116 u117 u118 u119 u120 u121 u122 u123 u124 u125 u126 u127 u128 u129 u130 u131 u132 u133 u134 u135 u136 u137 u138 u139 u140 u141 u142 u143 u144 u145 u146 u147 W b0 a0 a1 a2 c0 c1 c2 d0 d1 d2 m0 m1 m2
            clear hK8 hKL G2 Twbc Twac Twaa
            apply hKB
            clear hKB
            go_wp2_with fail
            rename_i KC hKC K10 hK10 KM hKM
            have HKC : ∀ (u15 u16 u17 u18 u19 u20 u21 u22 u23 u24 u25 u26 u27 u28 u29 u30 u31 u32 u33 u34 u35 u36 u37 u38 u39 u40 u41 u42 u43 u44 u45 u46 u47 u48 u49 u50 u51 u52 u53 u54 u55 u56 u57 u58 u59 u60 u61 u62 u63 u64 u65 u66 u67 u68 u69 u70 u71 u72 u73 u74 u75 u76 u77 u78 u79 u80 u81 u82 u83 u84 u85 u86 u87 u88 u89 u90 u91 u92 u93 u94 u95 u96 u97 u98 u99 u100 u101 u102 u103 u104 u105 u106 u107 u108 u109 u110 u111 u112 u113 u114 u115 u116 u117 u118 u119 u120 u121 u122 u123 u124 u125 u126 u127 u128 u129 u130 u131 u132 u133 u134 u135 u136 u137 u138 u139 u140 u141 u142 u143 u144 u145 u146 u147 : Value) (W : World), Below w.heap.size w W → W.cell? ⟨w.heap.size, 0, none⟩ = some (.string alo) → W.cell? ⟨w.heap.size, 1, none⟩ = some (.string ahi) → W.cell? ⟨w.heap.size, 2, none⟩ = some (.bool aop) → W.cell? ⟨w.heap.size + 1, 0, none⟩ = some (.string blo) → W.cell? ⟨w.heap.size + 1, 1, none⟩ = some (.string bhi) → W.cell? ⟨w.heap.size + 1, 2, none⟩ = some (.bool bop) → W.cell? ⟨w.heap.size + 1 + 1, 0, none⟩ = some (.string clo) → W.cell? ⟨w.heap.size + 1 + 1, 1, none⟩ = some (.string chi) → W.cell? ⟨w.heap.size + 1 + 1, 2, none⟩ = some (.bool cop) → W.cell? ⟨pm, 0, none⟩ = some (.string mlo) → W.cell? ⟨pm, 1, none⟩ = some (.string mhi) → W.cell? ⟨pm, 2, none⟩ = some (.bool mop) → KC { tmps := #[.agg #[.string alo, .string ahi, .bool aop], .agg #[.string blo, .string bhi, .bool bop], .agg #[.string clo, .string chi, .bool cop], .pointer (some ⟨w.heap.size, 0, none⟩), .pointer (some ⟨w.heap.size + 1, 0, none⟩), .pointer (some ⟨w.heap.size + 1 + 1, 0, none⟩), .bool false, .pointer (some ⟨pm, 0, none⟩), .bool is, undef, undef, undef, undef, undef, undef, u15, u16, u17, u18, u19, u20, u21, u22, u23, u24, u25, u26, u27, u28, u29, u30, u31, u32, u33, u34, u35, u36, u37, u38, u39, u40, u41, u42, u43, u44, u45, u46, u47, u48, u49, u50, u51, u52, u53, u54, u55, u56, u57, u58, u59, u60, u61, u62, u63, u64, u65, u66, u67, u68, u69, u70, u71, u72, u73, u74, u75, u76, u77, u78, u79, u80, u81, u82, u83, u84, u85, u86, u87, u88, u89, u90, u91, u92, u93, u94, u95, u96, u97, u98, u99, u100, u101, u102, u103, u104, u105, u106, u107, u108, u109, u110, u111, u112, u113, u114, u115, u116, u117, u118, u119, u120, u121, u122, u123, u124, u125, u126, u127, u128, u129, u130, u131, u132, u133, u134, u135, u136, u137, u138, u139, u140, u141, u142, u143, u144, u145, u146, u147], defers := [] } W := by
              intro u15 u16 u17 u18 u19 u20 u21 u22 u23 u24 u25 u26 u27 u28 u29 u30 u31 u32 u33 u34 u35 u36 u37 u38 u39 u40 u41 u42 u43 u44 u45 u46 u47 u48 u49 u50 u51 u52 u53 u54 u55 u56 u57 u58 u59 u60 u61 u62 u63 u64 u65 u66 u67 u68 u69 u70 u71 u72 u73 u74 u75 u76 u77 u78 u79 u80 u81 u82 u83 u84 u85 u86 u87 u88 u89 u90 u91 u92 u93 u94 u95 u96 u97 u98 u99 u100 u101 u102 u103 u104 u105 u106 u107 u108 u109 u110 u111 u112 u113 u114 u115 u116 u117 u118 u119 u120 u121 u122 u123 u124 u125 u126 u127 u128 u129 u130 u131 u132 u133 u134 u135 u136 u137 u138 u139 u140 u141 u142 u143 u144 u145 u146 u147 W b0 a0 a1 a2 c0 c1 c2 d0 d1 d2 m0 m1 m2
              clear hK10 hKM G4 Twab Twba Tea Teb
              apply hKC
              clear hKC
              go_wp2_with fail
              refine (Tx.out _).mono ?_
              rintro e v6 ⟨rfl, bb⟩
              have e6 := bthen (bthen b0 bb) (bnew v6 (.cells #[.string xlo, .string xhi, .bool xop] 23))
              replace a0 := cell_on a0 bb
              replace a1 := cell_on a1 bb
              replace a2 := cell_on a2 bb
              replace c0 := cell_on c0 bb
              replace c1 := cell_on c1 bb
              replace c2 := cell_on c2 bb
              replace d0 := cell_on d0 bb
              replace d1 := cell_on d1 bb
              replace d2 := cell_on d2 bb
              replace m0 := cell_on m0 bb
              replace m1 := cell_on m1 bb
              replace m2 := cell_on m2 bb
              clear bb b0
              have npa0 := World.block_lt_of_cell? v6 _ a0
              have npc0 := World.block_lt_of_cell? v6 _ c0
              have npd0 := World.block_lt_of_cell? v6 _ d0
              go_wp2_with fail
              refine (Ty.out _).mono ?_
              rintro e v7 ⟨rfl, bb⟩
              have e7 := bthen e6 bb
              obtain ⟨x0, x1, x2⟩ := (box_out (heap_new v6 (.cells #[.string xlo, .string xhi, .bool xop] 23))).1
              replace a0 := cell_on (cell_on a0 (bnew v6 (.cells #[.string xlo, .string xhi, .bool xop] 23))) bb
              replace a1 := cell_on (cell_on a1 (bnew v6 (.cells #[.string xlo, .string xhi, .bool xop] 23))) bb
              replace a2 := cell_on (cell_on a2 (bnew v6 (.cells #[.string xlo, .string xhi, .bool xop] 23))) bb
              replace c0 := cell_on (cell_on c0 (bnew v6 (.cells #[.string xlo, .string xhi, .bool xop] 23))) bb
              replace c1 := cell_on (cell_on c1 (bnew v6 (.cells #[.string xlo, .string xhi, .bool xop] 23))) bb
              replace c2 := cell_on (cell_on c2 (bnew v6 (.cells #[.string xlo, .string xhi, .bool xop] 23))) bb
              replace d0 := cell_on (cell_on d0 (bnew v6 (.cells #[.string xlo, .string xhi, .bool xop] 23))) bb
              replace d1 := cell_on (cell_on d1 (bnew v6 (.cells #[.string xlo, .string xhi, .bool xop] 23))) bb
              replace d2 := cell_on (cell_on d2 (bnew v6 (.cells #[.string xlo, .string xhi, .bool xop] 23))) bb
              replace m0 := cell_on (cell_on m0 (bnew v6 (.cells #[.string xlo, .string xhi, .bool xop] 23))) bb
              replace m1 := cell_on (cell_on m1 (bnew v6 (.cells #[.string xlo, .string xhi, .bool xop] 23))) bb
              replace m2 := cell_on (cell_on m2 (bnew v6 (.cells #[.string xlo, .string xhi, .bool xop] 23))) bb
              replace x0 := cell_on x0 bb
              replace x1 := cell_on x1 bb
              replace x2 := cell_on x2 bb
              clear bb e6
              have b20 := bthen e7 (bnew v7 (.cells #[.string ylo, .string yhi, .bool yop] 23))
              clear e7 npa0 npc0 npd0
              have nqa0 := World.block_lt_of_cell? v7 _ a0
              have nqx0 := World.block_lt_of_cell? v7 _ x0
              go_wp2_with fail
              refine (Tz.out _).mono ?_
              rintro e v8 ⟨rfl, bb⟩
              have e8 := bthen b20 bb
              obtain ⟨y0, y1, y2⟩ := (box_out (heap_new v7 (.cells #[.string ylo, .string yhi, .bool yop] 23))).1
              replace a0 := cell_on (cell_on a0 (bnew v7 (.cells #[.string ylo, .string yhi, .bool yop] 23))) bb
              replace a1 := cell_on (cell_on a1 (bnew v7 (.cells #[.string ylo, .string yhi, .bool yop] 23))) bb
              replace a2 := cell_on (cell_on a2 (bnew v7 (.cells #[.string ylo, .string yhi, .bool yop] 23))) bb
              replace c0 := cell_on (cell_on c0 (bnew v7 (.cells #[.string ylo, .string yhi, .bool yop] 23))) bb
              replace c1 := cell_on (cell_on c1 (bnew v7 (.cells #[.string ylo, .string yhi, .bool yop] 23))) bb
              replace c2 := cell_on (cell_on c2 (bnew v7 (.cells #[.string ylo, .string yhi, .bool yop] 23))) bb
              replace d0 := cell_on (cell_on d0 (bnew v7 (.cells #[.string ylo, .string yhi, .bool yop] 23))) bb
              replace d1 := cell_on (cell_on d1 (bnew v7 (.cells #[.string ylo, .string yhi, .bool yop] 23))) bb
              replace d2 := cell_on (cell_on d2 (bnew v7 (.cells #[.string ylo, .string yhi, .bool yop] 23))) bb
              replace m0 := cell_on (cell_on m0 (bnew v7 (.cells #[.string ylo, .string yhi, .bool yop] 23))) bb
              replace m1 := cell_on (cell_on m1 (bnew v7 (.cells #[.string ylo, .string yhi, .bool yop] 23))) bb
              replace m2 := cell_on (cell_on m2 (bnew v7 (.cells #[.string ylo, .string yhi, .bool yop] 23))) bb
              replace x0 := cell_on (cell_on x0 (bnew v7 (.cells #[.string ylo, .string yhi, .bool yop] 23))) bb
              replace x1 := cell_on (cell_on x1 (bnew v7 (.cells #[.string ylo, .string yhi, .bool yop] 23))) bb
              replace x2 := cell_on (cell_on x2 (bnew v7 (.cells #[.string ylo, .string yhi, .bool yop] 23))) bb
              replace y0 := cell_on y0 bb
              replace y1 := cell_on y1 bb
              replace y2 := cell_on y2 bb
              clear bb b20
              have b30 := bthen e8 (bnew v8 (.cells #[.string zlo, .string zhi, .bool zop] 23))
              clear e8 nqa0 nqx0
              have nrx0 := World.block_lt_of_cell? v8 _ x0
              clear a0 a1 a2 c0 c1 c2 d0 d1 d2 m0 m1 m2 y0 y1 y2
              cases is
              · go_wp2
                go_ret
                exact ⟨rfl, b30⟩
              · cases also
                · go_wp2
                  go_ret
                  exact ⟨rfl, b30⟩
                · obtain ⟨rfl, rfl, rfl, rfl⟩ := G5.out (by simp) (by simp)
                  go_wp2
                  go_ret
                  exact ⟨rfl, b30⟩
            clear hKC G5 Tx Ty Tz
            refine (Twab.out _).mono ?_
            rintro e v9 ⟨rfl, bb⟩
            have e9 := bthen b0 bb
            replace a0 := cell_on a0 bb
            replace a1 := cell_on a1 bb
            replace a2 := cell_on a2 bb
            replace c0 := cell_on c0 bb
            replace c1 := cell_on c1 bb
            replace c2 := cell_on c2 bb
            replace d0 := cell_on d0 bb
            replace d1 := cell_on d1 bb
            replace d2 := cell_on d2 bb
            replace m0 := cell_on m0 bb
            replace m1 := cell_on m1 bb
            replace m2 := cell_on m2 bb
            clear bb b0
            cases wab
            · clear G4
              go_wp2_with fail
              exact HKC _ _ _ _ _ _ _ _ _ _ _ _ _ _ _ _ _ _ _ _ _ _ _ _ _ _ _ _ _ _ _ _ _ _ _ _ _ _ _ _ _ _ _ _ _ _ _ _ _ _ _ _ _ _ _ _ _ _ _ _ _ _ _ _ _ _ _ _ _ _ _ _ _ _ _ _ _ _ _ _ _ _ _ _ _ _ _ _ _ _ _ _ _ _ _ _ _ _ _ _ _ _ _ _ _ _ _ _ _ _ _ _ _ _ _ _ _ _ _ _ _ _ _ _ _ _ _ _ _ _ _ _ _ _ e9 a0 a1 a2 c0 c1 c2 d0 d1 d2 m0 m1 m2
            · go_wp2_with fail
              refine (Twba.out _).mono ?_
              rintro e v10 ⟨rfl, bb⟩
              have e10 := bthen e9 bb
              replace a0 := cell_on a0 bb
              replace a1 := cell_on a1 bb
              replace a2 := cell_on a2 bb
              replace c0 := cell_on c0 bb
              replace c1 := cell_on c1 bb
              replace c2 := cell_on c2 bb
              replace d0 := cell_on d0 bb
              replace d1 := cell_on d1 bb
              replace d2 := cell_on d2 bb
              replace m0 := cell_on m0 bb
              replace m1 := cell_on m1 bb
              replace m2 := cell_on m2 bb
              clear bb e9
              cases wba
              · clear G4
                go_wp2_with fail
                exact HKC _ _ _ _ _ _ _ _ _ _ _ _ _ _ _ _ _ _ _ _ _ _ _ _ _ _ _ _ _ _ _ _ _ _ _ _ _ _ _ _ _ _ _ _ _ _ _ _ _ _ _ _ _ _ _ _ _ _ _ _ _ _ _ _ _ _ _ _ _ _ _ _ _ _ _ _ _ _ _ _ _ _ _ _ _ _ _ _ _ _ _ _ _ _ _ _ _ _ _ _ _ _ _ _ _ _ _ _ _ _ _ _ _ _ _ _ _ _ _ _ _ _ _ _ _ _ _ _ _ _ _ _ _ _ e10 a0 a1 a2 c0 c1 c2 d0 d1 d2 m0 m1 m2
              · have G4 := G4.out (by simp) (by simp)
                cases h1 : (alo.toList == blo.toList)
                · obtain ⟨rfl, rfl⟩ : ea = true ∧ eb = true := by
                    rcases G4 with h | h
                    · simp only [Rg.mk.injEq] at h; obtain ⟨rfl, rfl, rfl⟩ := h; simp at *
                    · exact h
                  clear G4
                  go_wp2_with fail
                  refine (Tea.out _).mono ?_
                  rintro e v11 ⟨rfl, bb⟩
                  have e11 := bthen e10 bb
                  replace a0 := cell_on a0 bb
                  replace a1 := cell_on a1 bb
                  replace a2 := cell_on a2 bb
                  replace c0 := cell_on c0 bb
                  replace c1 := cell_on c1 bb
                  replace c2 := cell_on c2 bb
                  replace d0 := cell_on d0 bb
                  replace d1 := cell_on d1 bb
                  replace d2 := cell_on d2 bb
                  replace m0 := cell_on m0 bb
                  replace m1 := cell_on m1 bb
                  replace m2 := cell_on m2 bb
                  clear bb e10
                  go_wp2_with fail
                  refine (Teb.out _).mono ?_
                  rintro e v12 ⟨rfl, bb⟩
                  have e12 := bthen e11 bb
                  replace a0 := cell_on a0 bb
                  replace a1 := cell_on a1 bb
                  replace a2 := cell_on a2 bb
                  replace c0 := cell_on c0 bb
                  replace c1 := cell_on c1 bb
                  replace c2 := cell_on c2 bb
                  replace d0 := cell_on d0 bb
                  replace d1 := cell_on d1 bb
                  replace d2 := cell_on d2 bb
                  replace m0 := cell_on m0 bb
                  replace m1 := cell_on m1 bb
                  replace m2 := cell_on m2 bb
                  clear bb e11
                  go_wp2_with fail
                  exact HKC _ _ _ _ _ _ _ _ _ _ _ _ _ _ _ _ _ _ _ _ _ _ _ _ _ _ _ _ _ _ _ _ _ _ _ _ _ _ _ _ _ _ _ _ _ _ _ _ _ _ _ _ _ _ _ _ _ _ _ _ _ _ _ _ _ _ _ _ _ _ _ _ _ _ _ _ _ _ _ _ _ _ _ _ _ _ _ _ _ _ _ _ _ _ _ _ _ _ _ _ _ _ _ _ _ _ _ _ _ _ _ _ _ _ _ _ _ _ _ _ _ _ _ _ _ _ _ _ _ _ _ _ _ _ e12 a0 a1 a2 c0 c1 c2 d0 d1 d2 m0 m1 m2
                · cases h2 : (ahi.toList == bhi.toList)
                  · obtain ⟨rfl, rfl⟩ : ea = true ∧ eb = true := by
                      rcases G4 with h | h
                      · simp only [Rg.mk.injEq] at h; obtain ⟨rfl, rfl, rfl⟩ := h; simp at *
                      · exact h
                    clear G4
                    go_wp2_with fail
                    refine (Tea.out _).mono ?_
                    rintro e v13 ⟨rfl, bb⟩
                    have e13 := bthen e10 bb
                    replace a0 := cell_on a0 bb
                    replace a1 := cell_on a1 bb
                    replace a2 := cell_on a2 bb
                    replace c0 := cell_on c0 bb
                    replace c1 := cell_on c1 bb
                    replace c2 := cell_on c2 bb
                    replace d0 := cell_on d0 bb
                    replace d1 := cell_on d1 bb
                    replace d2 := cell_on d2 bb
                    replace m0 := cell_on m0 bb
                    replace m1 := cell_on m1 bb
                    replace m2 := cell_on m2 bb
                    clear bb e10
                    go_wp2_with fail
                    refine (Teb.out _).mono ?_
                    rintro e v14 ⟨rfl, bb⟩
                    have e14 := bthen e13 bb
                    replace a0 := cell_on a0 bb
                    replace a1 := cell_on a1 bb
                    replace a2 := cell_on a2 bb
                    replace c0 := cell_on c0 bb
                    replace c1 := cell_on c1 bb
                    replace c2 := cell_on c2 bb
                    replace d0 := cell_on d0 bb
                    replace d1 := cell_on d1 bb
                    replace d2 := cell_on d2 bb
                    replace m0 := cell_on m0 bb
                    replace m1 := cell_on m1 bb
                    replace m2 := cell_on m2 bb
                    clear bb e13
                    go_wp2_with fail
                    exact HKC _ _ _ _ _ _ _ _ _ _ _ _ _ _ _ _ _ _ _ _ _ _ _ _ _ _ _ _ _ _ _ _ _ _ _ _ _ _ _ _ _ _ _ _ _ _ _ _ _ _ _ _ _ _ _ _ _ _ _ _ _ _ _ _ _ _ _ _ _ _ _ _ _ _ _ _ _ _ _ _ _ _ _ _ _ _ _ _ _ _ _ _ _ _ _ _ _ _ _ _ _ _ _ _ _ _ _ _ _ _ _ _ _ _ _ _ _ _ _ _ _ _ _ _ _ _ _ _ _ _ _ _ _ _ e14 a0 a1 a2 c0 c1 c2 d0 d1 d2 m0 m1 m2
                  · cases h3 : (aop == bop)
                    · obtain ⟨rfl, rfl⟩ : ea = true ∧ eb = true := by
                        rcases G4 with h | h
                        · simp only [Rg.mk.injEq] at h; obtain ⟨rfl, rfl, rfl⟩ := h; simp at *
                        · exact h
                      clear G4
                      go_wp2_with fail
                      refine (Tea.out _).mono ?_
                      rintro e v15 ⟨rfl, bb⟩
                      have e15 := bthen e10 bb
                      replace a0 := cell_on a0 bb
                      replace a1 := cell_on a1 bb
                      replace a2 := cell_on a2 bb
                      replace c0 := cell_on c0 bb
                      replace c1 := cell_on c1 bb
                      replace c2 := cell_on c2 bb
                      replace d0 := cell_on d0 bb
                      replace d1 := cell_on d1 bb
                      replace d2 := cell_on d2 bb
                      replace m0 := cell_on m0 bb
                      replace m1 := cell_on m1 bb
                      replace m2 := cell_on m2 bb
                      clear bb e10
                      go_wp2_with fail
                      refine (Teb.out _).mono ?_
                      rintro e v16 ⟨rfl, bb⟩
                      have e16 := bthen e15 bb
                      replace a0 := cell_on a0 bb
                      replace a1 := cell_on a1 bb
                      replace a2 := cell_on a2 bb
                      replace c0 := cell_on c0 bb
                      replace c1 := cell_on c1 bb
                      replace c2 := cell_on c2 bb
                      replace d0 := cell_on d0 bb
                      replace d1 := cell_on d1 bb
                      replace d2 := cell_on d2 bb
                      replace m0 := cell_on m0 bb
                      replace m1 := cell_on m1 bb
                      replace m2 := cell_on m2 bb
                      clear bb e15
                      go_wp2_with fail
                      exact HKC _ _ _ _ _ _ _ _ _ _ _ _ _ _ _ _ _ _ _ _ _ _ _ _ _ _ _ _ _ _ _ _ _ _ _ _ _ _ _ _ _ _ _ _ _ _ _ _ _ _ _ _ _ _ _ _ _ _ _ _ _ _ _ _ _ _ _ _ _ _ _ _ _ _ _ _ _ _ _ _ _ _ _ _ _ _ _ _ _ _ _ _ _ _ _ _ _ _ _ _ _ _ _ _ _ _ _ _ _ _ _ _ _ _ _ _ _ _ _ _ _ _ _ _ _ _ _ _ _ _ _ _ _ _ e16 a0 a1 a2 c0 c1 c2 d0 d1 d2 m0 m1 m2
                    · clear G4
                      go_wp2_with fail
                      exact HKC _ _ _ _ _ _ _ _ _ _ _ _ _ _ _ _ _ _ _ _ _ _ _ _ _ _ _ _ _ _ _ _ _ _ _ _ _ _ _ _ _ _ _ _ _ _ _ _ _ _ _ _ _ _ _ _ _ _ _ _ _ _ _ _ _ _ _ _ _ _ _ _ _ _ _ _ _ _ _ _ _ _ _ _ _ _ _ _ _ _ _ _ _ _ _ _ _ _ _ _ _ _ _ _ _ _ _ _ _ _ _ _ _ _ _ _ _ _ _ _ _ _ _ _ _ _ _ _ _ _ _ _ _ _ e10 a0 a1 a2 c0 c1 c2 d0 d1 d2 m0 m1 m2
          clear hKB G4 G5 Twba Tea Teb Tx Ty Tz
          refine (Twab.out _).mono ?_
          rintro e v17 ⟨rfl, bb⟩
          have e17 := bthen b0 bb
          replace a0 := cell_on a0 bb
          replace a1 := cell_on a1 bb
          replace a2 := cell_on a2 bb
          replace c0 := cell_on c0 bb
          replace c1 := cell_on c1 bb
          replace c2 := cell_on c2 bb
          replace d0 := cell_on d0 bb
          replace d1 := cell_on d1 bb
          replace d2 := cell_on d2 bb
          replace m0 := cell_on m0 bb
          replace m1 := cell_on m1 bb
          replace m2 := cell_on m2 bb
          clear bb b0
          cases wab
          · go_wp2_with fail
            refine (Twaa.out _).mono ?_
            rintro e v18 ⟨rfl, bb⟩
            have e18 := bthen e17 bb
            replace a0 := cell_on a0 bb
            replace a1 := cell_on a1 bb
            replace a2 := cell_on a2 bb
            replace c0 := cell_on c0 bb
            replace c1 := cell_on c1 bb
            replace c2 := cell_on c2 bb
            replace d0 := cell_on d0 bb
            replace d1 := cell_on d1 bb
            replace d2 := cell_on d2 bb
            replace m0 := cell_on m0 bb
            replace m1 := cell_on m1 bb
            replace m2 := cell_on m2 bb
            clear bb e17
            go_wp2_with fail
            exact HKB _ _ _ _ _ _ _ _ _ _ _ _ _ _ _ _ _ _ _ _ _ _ _ _ _ _ _ _ _ _ _ _ _ _ _ _ _ _ _ _ _ _ _ _ _ _ _ _ _ _ _ _ _ _ _ _ _ _ _ _ _ _ _ _ _ _ _ _ _ _ _ _ _ _ _ _ _ _ _ _ _ _ _ _ _ _ _ _ _ _ _ _ _ _ _ _ _ _ _ _ _ _ _ _ _ _ _ _ _ _ _ _ _ _ _ _ _ _ _ _ _ _ _ _ _ _ _ _ _ _ _ _ _ _ e18 a0 a1 a2 c0 c1 c2 d0 d1 d2 m0 m1 m2
          · go_wp2_with fail
            refine (Twbc.out _).mono ?_
            rintro e v19 ⟨rfl, bb⟩
            have e19 := bthen e17 bb
            replace a0 := cell_on a0 bb
            replace a1 := cell_on a1 bb
            replace a2 := cell_on a2 bb
            replace c0 := cell_on c0 bb
            replace c1 := cell_on c1 bb
            replace c2 := cell_on c2 bb
            replace d0 := cell_on d0 bb
            replace d1 := cell_on d1 bb
            replace d2 := cell_on d2 bb
            replace m0 := cell_on m0 bb
            replace m1 := cell_on m1 bb
            replace m2 := cell_on m2 bb
            clear bb e17
            cases wbc
            · go_wp2_with fail
              refine (Twaa.out _).mono ?_
              rintro e v20 ⟨rfl, bb⟩
              have e20 := bthen e19 bb
              replace a0 := cell_on a0 bb
              replace a1 := cell_on a1 bb
              replace a2 := cell_on a2 bb
              replace c0 := cell_on c0 bb
              replace c1 := cell_on c1 bb
              replace c2 := cell_on c2 bb
              replace d0 := cell_on d0 bb
              replace d1 := cell_on d1 bb
              replace d2 := cell_on d2 bb
              replace m0 := cell_on m0 bb
              replace m1 := cell_on m1 bb
              replace m2 := cell_on m2 bb
              clear bb e19
              go_wp2_with fail
              exact HKB _ _ _ _ _ _ _ _ _ _ _ _ _ _ _ _ _ _ _ _ _ _ _ _ _ _ _ _ _ _ _ _ _ _ _ _ _ _ _ _ _ _ _ _ _ _ _ _ _ _ _ _ _ _ _ _ _ _ _ _ _ _ _ _ _ _ _ _ _ _ _ _ _ _ _ _ _ _ _ _ _ _ _ _ _ _ _ _ _ _ _ _ _ _ _ _ _ _ _ _ _ _ _ _ _ _ _ _ _ _ _ _ _ _ _ _ _ _ _ _ _ _ _ _ _ _ _ _ _ _ _ _ _ _ e20 a0 a1 a2 c0 c1 c2 d0 d1 d2 m0 m1 m2
            · obtain rfl := G2.out (by simp) (by simp)
              go_wp2_with fail
              refine (Twac.out _).mono ?_
              rintro e v21 ⟨rfl, bb⟩
              have e21 := bthen e19 bb
              replace a0 := cell_on a0 bb
              replace a1 := cell_on a1 bb
              replace a2 := cell_on a2 bb
              replace c0 := cell_on c0 bb
              replace c1 := cell_on c1 bb
              replace c2 := cell_on c2 bb
              replace d0 := cell_on d0 bb
              replace d1 := cell_on d1 bb
              replace d2 := cell_on d2 bb
              replace m0 := cell_on m0 bb
              replace m1 := cell_on m1 bb
              replace m2 := cell_on m2 bb
              clear bb e19
              go_wp2_with fail
              refine (Twaa.out _).mono ?_
              rintro e v22 ⟨rfl, bb⟩
              have e22 := bthen e21 bb
              replace a0 := cell_on a0 bb
              replace a1 := cell_on a1 bb
              replace a2 := cell_on a2 bb
              replace c0 := cell_on c0 bb
              replace c1 := cell_on c1 bb
              replace c2 := cell_on c2 bb
              replace d0 := cell_on d0 bb
              replace d1 := cell_on d1 bb
              replace d2 := cell_on d2 bb
              replace m0 := cell_on m0 bb
              replace m1 := cell_on m1 bb
              replace m2 := cell_on m2 bb
              clear bb e21
              go_wp2_with fail
              exact HKB _ _ _ _ _ _ _ _ _ _ _ _ _ _ _ _ _ _ _ _ _ _ _ _ _ _ _ _ _ _ _ _ _ _ _ _ _ _ _ _ _ _ _ _ _ _ _ _ _ _ _ _ _ _ _ _ _ _ _ _ _ _ _ _ _ _ _ _ _ _ _ _ _ _ _ _ _ _ _ _ _ _ _ _ _ _ _ _ _ _ _ _ _ _ _ _ _ _ _ _ _ _ _ _ _ _ _ _ _ _ _ _ _ _ _ _ _ _ _ _ _ _ _ _ _ _ _ _ _ _ _ _ _ _ e22 a0 a1 a2 c0 c1 c2 d0 d1 d2 m0 m1 m2
        clear hKA G2 G4 G5 Twab Twba Twbc Twac Twaa Tea Teb Tx Ty Tz
        have S0 : Hid (Below w.heap.size w W0.drew ∧ W0.drew.cell? ⟨w.heap.size, 0, none⟩ = some (.string alo) ∧ W0.drew.cell? ⟨w.heap.size, 1, none⟩ = some (.string ahi) ∧ W0.drew.cell? ⟨w.heap.size, 2, none⟩ = some (.bool aop) ∧ W0.drew.cell? ⟨w.heap.size + 1, 0, none⟩ = some (.string blo) ∧ W0.drew.cell? ⟨w.heap.size + 1, 1, none⟩ = some (.string bhi) ∧ W0.drew.cell? ⟨w.heap.size + 1, 2, none⟩ = some (.bool bop) ∧ W0.drew.cell? ⟨w.heap.size + 1 + 1, 0, none⟩ = some (.string clo) ∧ W0.drew.cell? ⟨w.heap.size + 1 + 1, 1, none⟩ = some (.string chi) ∧ W0.drew.cell? ⟨w.heap.size + 1 + 1, 2, none⟩ = some (.bool cop) ∧ W0.drew.cell? ⟨pm, 0, none⟩ = some (.string mlo) ∧ W0.drew.cell? ⟨pm, 1, none⟩ = some (.string mhi) ∧ W0.drew.cell? ⟨pm, 2, none⟩ = some (.bool mop)) := ⟨b10.drew, a0', a1', a2', c0', c1', c2', d0', d1', d2', m0, m1, m2⟩
        clear b10 a0' a1' a2' c0' c1' c2' d0' d1' d2' m0 m1 m2
        cases ec
        · have G1 := G1.out (by simp) (by simp) (by simp)
          cases is
          · clear Twcm
            cases wca
            · clear Twcb G1
              refine wp_region_held_drew (S := fun W => Below w.heap.size w W ∧ W.cell? ⟨w.heap.size, 0, none⟩ = some (.string alo) ∧ W.cell? ⟨w.heap.size, 1, none⟩ = some (.string ahi) ∧ W.cell? ⟨w.heap.size, 2, none⟩ = some (.bool aop) ∧ W.cell? ⟨w.heap.size + 1, 0, none⟩ = some (.string blo) ∧ W.cell? ⟨w.heap.size + 1, 1, none⟩ = some (.string bhi) ∧ W.cell? ⟨w.heap.size + 1, 2, none⟩ = some (.bool bop) ∧ W.cell? ⟨w.heap.size + 1 + 1, 0, none⟩ = some (.string clo) ∧ W.cell? ⟨w.heap.size + 1 + 1, 1, none⟩ = some (.string chi) ∧ W.cell? ⟨w.heap.size + 1 + 1, 2, none⟩ = some (.bool cop) ∧ W.cell? ⟨pm, 0, none⟩ = some (.string mlo) ∧ W.cell? ⟨pm, 1, none⟩ = some (.string mhi) ∧ W.cell? ⟨pm, 2, none⟩ = some (.bool mop)) (by kernel_rfl) S0.out (fun hHeld => ?_)
              refine wpAnyH_take (i := 0) (v := ?_) rfl (by kernel_rfl) (by kernel_rfl) (by kernel_rfl) (fun _ _ _ h => h) (Or.inl ⟨by rfl, ?_⟩) (by assumption) ?_
              rotate_left
              · intro w hSw
                go_simp
                try with_reducible rfl
              simp only [Act.put, List.getElem_toArray, List.getElem_cons_zero, List.setIfInBounds_toArray, List.set_cons_zero, List.set_cons_succ]
              refine wpAnyH_ready (rs := [1]) (by kernel_rfl) (by simp) ?_
              refine AllReadyH.cons rfl (fun K hK => ?_) AllReadyH.nil
              go_simp
              refine (Tec.out _).mono ?_
              rintro e w3 ⟨rfl, bb⟩
              refine hK.out _ _ (keep4 hHeld bb) (fun hHeld => ?_)
              clear hK K Tec
              refine wpAnyH_take (i := 2) (v := ?_) rfl (by kernel_rfl) (by kernel_rfl) (by kernel_rfl) (fun _ _ _ h => h) (Or.inl ⟨by rfl, ?_⟩) (by assumption) ?_
              rotate_left
              · intro w hSw
                go_simp
                try with_reducible rfl
              simp only [Act.put, List.getElem_toArray, List.getElem_cons_zero, List.getElem_cons_succ, List.setIfInBounds_toArray, List.set_cons_zero, List.set_cons_succ]
              refine wpAnyH_take (i := 3) (v := ?_) rfl (by kernel_rfl) (by kernel_rfl) (by kernel_rfl) (fun _ _ _ h => h) (Or.inl ⟨by rfl, ?_⟩) (by assumption) ?_
              rotate_left
              · intro w hSw
                go_simp
                try with_reducible rfl
              simp only [Act.put, List.getElem_toArray, List.getElem_cons_zero, List.getElem_cons_succ, List.setIfInBounds_toArray, List.set_cons_zero, List.set_cons_succ]
              refine wpAnyH_take (i := 4) (v := ?_) rfl (by kernel_rfl) (by kernel_rfl) (by kernel_rfl) (fun _ _ _ h => h) (Or.inl ⟨by rfl, ?_⟩) (by assumption) ?_
              rotate_left
              · intro w hSw
                go_simp
                try with_reducible rfl
              simp only [Act.put, List.getElem_toArray, List.getElem_cons_zero, List.getElem_cons_succ, List.setIfInBounds_toArray, List.set_cons_zero, List.set_cons_succ]
              refine wpAnyH_take (i := 5) (v := ?_) rfl (by kernel_rfl) (by kernel_rfl) (by kernel_rfl) (fun _ _ _ h => h) (Or.inl ⟨by rfl, ?_⟩) (by assumption) ?_
              rotate_left
              · intro w hSw
                go_simp
                try with_reducible rfl
              simp only [Act.put, List.getElem_toArray, List.getElem_cons_zero, List.getElem_cons_succ, List.setIfInBounds_toArray, List.set_cons_zero, List.set_cons_succ]
              refine wpAnyH_take (i := 6) (v := undef) rfl (by kernel_rfl) (by kernel_rfl) (by kernel_rfl) (fun _ _ _ h => h) (Or.inr ⟨by rfl, rfl⟩) (by assumption) ?_
              simp only [Act.put, List.getElem_toArray, List.getElem_cons_zero, List.getElem_cons_succ, List.setIfInBounds_toArray, List.set_cons_zero, List.set_cons_succ]
              refine wpAnyH_take (i := 7) (v := undef) rfl (by kernel_rfl) (by kernel_rfl) (by kernel_rfl) (fun _ _ _ h => h) (Or.inr ⟨by rfl, rfl⟩) (by assumption) ?_
              simp only [Act.put, List.getElem_toArray, List.getElem_cons_zero, List.getElem_cons_succ, List.setIfInBounds_toArray, List.set_cons_zero, List.set_cons_succ]
              refine wpAnyH_take (i := 8) (v := undef) rfl (by kernel_rfl) (by kernel_rfl) (by kernel_rfl) (fun _ _ _ h => h) (Or.inr ⟨by rfl, rfl⟩) (by assumption) ?_
              simp only [Act.put, List.getElem_toArray, List.getElem_cons_zero, List.getElem_cons_succ, List.setIfInBounds_toArray, List.set_cons_zero, List.set_cons_succ]
              refine wpAnyH_take (i := 9) (v := ?_) rfl (by kernel_rfl) (by kernel_rfl) (by kernel_rfl) (fun _ _ _ h => h) (Or.inl ⟨by rfl, ?_⟩) (by assumption) ?_
              rotate_left
              · intro w hSw
                go_simp
                try with_reducible rfl
              simp only [Act.put, List.getElem_toArray, List.getElem_cons_zero, List.getElem_cons_succ, List.setIfInBounds_toArray, List.set_cons_zero, List.set_cons_succ]
              refine wpAnyH_take (i := 10) (v := ?_) rfl (by kernel_rfl) (by kernel_rfl) (by kernel_rfl) (fun _ _ _ h => h) (Or.inl ⟨by rfl, ?_⟩) (by assumption) ?_
              rotate_left
              · intro w hSw
                go_simp
                try with_reducible rfl
              simp only [Act.put, List.getElem_toArray, List.getElem_cons_zero, List.getElem_cons_succ, List.setIfInBounds_toArray, List.set_cons_zero, List.set_cons_succ]
              refine wpAnyH_take (i := 11) (v := ?_) rfl (by kernel_rfl) (by kernel_rfl) (by kernel_rfl) (fun _ _ _ h => h) (Or.inl ⟨by rfl, ?_⟩) (by assumption) ?_
              rotate_left
              · intro w hSw
                go_simp
                try with_reducible rfl
              simp only [Act.put, List.getElem_toArray, List.getElem_cons_zero, List.getElem_cons_succ, List.setIfInBounds_toArray, List.set_cons_zero, List.set_cons_succ]
              refine wpAnyH_ready (rs := [12]) (by kernel_rfl) (by simp) ?_
              refine AllReadyH.cons rfl (fun K hK => ?_) AllReadyH.nil
              go_simp
              refine (Twca.out _).mono ?_
              rintro e w3 ⟨rfl, bb⟩
              refine hK.out _ _ (keep4 hHeld bb) (fun hHeld => ?_)
              clear hK K Twca
              refine wpAnyH_take (i := 13) (v := ?_) rfl (by kernel_rfl) (by kernel_rfl) (by kernel_rfl) (fun _ _ _ h => h) (Or.inl ⟨by rfl, ?_⟩) (by assumption) ?_
              rotate_left
              · intro w hSw
                go_simp
                try with_reducible rfl
              simp only [Act.put, List.getElem_toArray, List.getElem_cons_zero, List.getElem_cons_succ, List.setIfInBounds_toArray, List.set_cons_zero, List.set_cons_succ]
              refine wpAnyH_take (i := 14) (v := undef) rfl (by kernel_rfl) (by kernel_rfl) (by kernel_rfl) (fun _ _ _ h => h) (Or.inr ⟨by rfl, rfl⟩) (by assumption) ?_
              simp only [Act.put, List.getElem_toArray, List.getElem_cons_zero, List.getElem_cons_succ, List.setIfInBounds_toArray, List.set_cons_zero, List.set_cons_succ]
              refine wpAnyH_take (i := 15) (v := undef) rfl (by kernel_rfl) (by kernel_rfl) (by kernel_rfl) (fun _ _ _ h => h) (Or.inr ⟨by rfl, rfl⟩) (by assumption) ?_
              simp only [Act.put, List.getElem_toArray, List.getElem_cons_zero, List.getElem_cons_succ, List.setIfInBounds_toArray, List.set_cons_zero, List.set_cons_succ]
              refine wpAnyH_take (i := 16) (v := undef) rfl (by kernel_rfl) (by kernel_rfl) (by kernel_rfl) (fun _ _ _ h => h) (Or.inr ⟨by rfl, rfl⟩) (by assumption) ?_
              simp only [Act.put, List.getElem_toArray, List.getElem_cons_zero, List.getElem_cons_succ, List.setIfInBounds_toArray, List.set_cons_zero, List.set_cons_succ]
              refine wpAnyH_take (i := 17) (v := ?_) rfl (by kernel_rfl) (by kernel_rfl) (by kernel_rfl) (fun _ _ _ h => h) (Or.inl ⟨by rfl, ?_⟩) (by assumption) ?_
              rotate_left
              · intro w hSw
                go_simp
                try with_reducible rfl
              simp only [Act.put, List.getElem_toArray, List.getElem_cons_zero, List.getElem_cons_succ, List.setIfInBounds_toArray, List.set_cons_zero, List.set_cons_succ]
              refine wpAnyH_take (i := 18) (v := ?_) rfl (by kernel_rfl) (by kernel_rfl) (by kernel_rfl) (fun _ _ _ h => h) (Or.inl ⟨by rfl, ?_⟩) (by assumption) ?_
              rotate_left
              · intro w hSw
                go_simp
                try with_reducible rfl
              simp only [Act.put, List.getElem_toArray, List.getElem_cons_zero, List.getElem_cons_succ, List.setIfInBounds_toArray, List.set_cons_zero, List.set_cons_succ]
              refine wpAnyH_take (i := 19) (v := ?_) rfl (by kernel_rfl) (by kernel_rfl) (by kernel_rfl) (fun _ _ _ h => h) (Or.inl ⟨by rfl, ?_⟩) (by assumption) ?_
              rotate_left
              · intro w hSw
                go_simp
                try with_reducible rfl
              simp only [Act.put, List.getElem_toArray, List.getElem_cons_zero, List.getElem_cons_succ, List.setIfInBounds_toArray, List.set_cons_zero, List.set_cons_succ]
              refine wpAnyH_done (by kernel_rfl) ?_ _
              go_wp2_with fail
              exact HKA _ _ _ _ _ _ _ _ _ _ _ _ _ _ _ _ _ _ _ _ _ _ _ _ _ _ _ _ _ _ _ _ _ _ _ _ _ _ _ _ _ _ _ _ _ _ _ _ _ _ _ _ _ _ _ _ _ _ _ _ _ _ _ _ _ _ _ _ _ _ _ _ _ _ _ _ _ _ _ _ _ _ _ _ _ _ _ _ _ _ _ _ _ _ _ _ _ _ _ _ _ _ _ _ _ _ _ _ _ _ _ _ _ _ _ _ _ _ _ _ _ _ _ _ _ _ _ _ _ _ _ _ _ _ hHeld.1 hHeld.2.1 hHeld.2.2.1 hHeld.2.2.2.1 hHeld.2.2.2.2.1 hHeld.2.2.2.2.2.1 hHeld.2.2.2.2.2.2.1 hHeld.2.2.2.2.2.2.2.1 hHeld.2.2.2.2.2.2.2.2.1 hHeld.2.2.2.2.2.2.2.2.2.1 hHeld.2.2.2.2.2.2.2.2.2.2.1 hHeld.2.2.2.2.2.2.2.2.2.2.2.1 hHeld.2.2.2.2.2.2.2.2.2.2.2.2
            · obtain rfl : wcb = false := by simpa using G1
              clear G1
              refine wp_region_held_drew (S := fun W => Below w.heap.size w W ∧ W.cell? ⟨w.heap.size, 0, none⟩ = some (.string alo) ∧ W.cell? ⟨w.heap.size, 1, none⟩ = some (.string ahi) ∧ W.cell? ⟨w.heap.size, 2, none⟩ = some (.bool aop) ∧ W.cell? ⟨w.heap.size + 1, 0, none⟩ = some (.string blo) ∧ W.cell? ⟨w.heap.size + 1, 1, none⟩ = some (.string bhi) ∧ W.cell? ⟨w.heap.size + 1, 2, none⟩ = some (.bool bop) ∧ W.cell? ⟨w.heap.size + 1 + 1, 0, none⟩ = some (.string clo) ∧ W.cell? ⟨w.heap.size + 1 + 1, 1, none⟩ = some (.string chi) ∧ W.cell? ⟨w.heap.size + 1 + 1, 2, none⟩ = some (.bool cop) ∧ W.cell? ⟨pm, 0, none⟩ = some (.string mlo) ∧ W.cell? ⟨pm, 1, none⟩ = some (.string mhi) ∧ W.cell? ⟨pm, 2, none⟩ = some (.bool mop)) (by kernel_rfl) S0.out (fun hHeld => ?_)
              refine wpAnyH_take (i := 0) (v := ?_) rfl (by kernel_rfl) (by kernel_rfl) (by kernel_rfl) (fun _ _ _ h => h) (Or.inl ⟨by rfl, ?_⟩) (by assumption) ?_
              rotate_left
              · intro w hSw
                go_simp
                try with_reducible rfl
              simp only [Act.put, List.getElem_toArray, List.getElem_cons_zero, List.setIfInBounds_toArray, List.set_cons_zero, List.set_cons_succ]
              refine wpAnyH_ready (rs := [1]) (by kernel_rfl) (by simp) ?_
              refine AllReadyH.cons rfl (fun K hK => ?_) AllReadyH.nil
              go_simp
              refine (Tec.out _).mono ?_
              rintro e w3 ⟨rfl, bb⟩
              refine hK.out _ _ (keep4 hHeld bb) (fun hHeld => ?_)
              clear hK K Tec
              refine wpAnyH_take (i := 2) (v := ?_) rfl (by kernel_rfl) (by kernel_rfl) (by kernel_rfl) (fun _ _ _ h => h) (Or.inl ⟨by rfl, ?_⟩) (by assumption) ?_
              rotate_left
              · intro w hSw
                go_simp
                try with_reducible rfl
              simp only [Act.put, List.getElem_toArray, List.getElem_cons_zero, List.getElem_cons_succ, List.setIfInBounds_toArray, List.set_cons_zero, List.set_cons_succ]
              refine wpAnyH_take (i := 3) (v := ?_) rfl (by kernel_rfl) (by kernel_rfl) (by kernel_rfl) (fun _ _ _ h => h) (Or.inl ⟨by rfl, ?_⟩) (by assumption) ?_
              rotate_left
              · intro w hSw
                go_simp
                try with_reducible rfl
              simp only [Act.put, List.getElem_toArray, List.getElem_cons_zero, List.getElem_cons_succ, List.setIfInBounds_toArray, List.set_cons_zero, List.set_cons_succ]
              refine wpAnyH_take (i := 4) (v := ?_) rfl (by kernel_rfl) (by kernel_rfl) (by kernel_rfl) (fun _ _ _ h => h) (Or.inl ⟨by rfl, ?_⟩) (by assumption) ?_
              rotate_left
              · intro w hSw
                go_simp
                try with_reducible rfl
              simp only [Act.put, List.getElem_toArray, List.getElem_cons_zero, List.getElem_cons_succ, List.setIfInBounds_toArray, List.set_cons_zero, List.set_cons_succ]
              refine wpAnyH_take (i := 5) (v := ?_) rfl (by kernel_rfl) (by kernel_rfl) (by kernel_rfl) (fun _ _ _ h => h) (Or.inl ⟨by rfl, ?_⟩) (by assumption) ?_
              rotate_left
              · intro w hSw
                go_simp
                try with_reducible rfl
              simp only [Act.put, List.getElem_toArray, List.getElem_cons_zero, List.getElem_cons_succ, List.setIfInBounds_toArray, List.set_cons_zero, List.set_cons_succ]
              refine wpAnyH_take (i := 6) (v := undef) rfl (by kernel_rfl) (by kernel_rfl) (by kernel_rfl) (fun _ _ _ h => h) (Or.inr ⟨by rfl, rfl⟩) (by assumption) ?_
              simp only [Act.put, List.getElem_toArray, List.getElem_cons_zero, List.getElem_cons_succ, List.setIfInBounds_toArray, List.set_cons_zero, List.set_cons_succ]
              refine wpAnyH_take (i := 7) (v := undef) rfl (by kernel_rfl) (by kernel_rfl) (by kernel_rfl) (fun _ _ _ h => h) (Or.inr ⟨by rfl, rfl⟩) (by assumption) ?_
              simp only [Act.put, List.getElem_toArray, List.getElem_cons_zero, List.getElem_cons_succ, List.setIfInBounds_toArray, List.set_cons_zero, List.set_cons_succ]
              refine wpAnyH_take (i := 8) (v := undef) rfl (by kernel_rfl) (by kernel_rfl) (by kernel_rfl) (fun _ _ _ h => h) (Or.inr ⟨by rfl, rfl⟩) (by assumption) ?_
              simp only [Act.put, List.getElem_toArray, List.getElem_cons_zero, List.getElem_cons_succ, List.setIfInBounds_toArray, List.set_cons_zero, List.set_cons_succ]
              refine wpAnyH_take (i := 9) (v := ?_) rfl (by kernel_rfl) (by kernel_rfl) (by kernel_rfl) (fun _ _ _ h => h) (Or.inl ⟨by rfl, ?_⟩) (by assumption) ?_
              rotate_left
              · intro w hSw
                go_simp
                try with_reducible rfl
              simp only [Act.put, List.getElem_toArray, List.getElem_cons_zero, List.getElem_cons_succ, List.setIfInBounds_toArray, List.set_cons_zero, List.set_cons_succ]
              refine wpAnyH_take (i := 10) (v := ?_) rfl (by kernel_rfl) (by kernel_rfl) (by kernel_rfl) (fun _ _ _ h => h) (Or.inl ⟨by rfl, ?_⟩) (by assumption) ?_
              rotate_left
              · intro w hSw
                go_simp
                try with_reducible rfl
              simp only [Act.put, List.getElem_toArray, List.getElem_cons_zero, List.getElem_cons_succ, List.setIfInBounds_toArray, List.set_cons_zero, List.set_cons_succ]
              refine wpAnyH_take (i := 11) (v := ?_) rfl (by kernel_rfl) (by kernel_rfl) (by kernel_rfl) (fun _ _ _ h => h) (Or.inl ⟨by rfl, ?_⟩) (by assumption) ?_
              rotate_left
              · intro w hSw
                go_simp
                try with_reducible rfl
              simp only [Act.put, List.getElem_toArray, List.getElem_cons_zero, List.getElem_cons_succ, List.setIfInBounds_toArray, List.set_cons_zero, List.set_cons_succ]
              refine wpAnyH_ready (rs := [12]) (by kernel_rfl) (by simp) ?_
              refine AllReadyH.cons rfl (fun K hK => ?_) AllReadyH.nil
              go_simp
              refine (Twca.out _).mono ?_
              rintro e w3 ⟨rfl, bb⟩
              refine hK.out _ _ (keep4 hHeld bb) (fun hHeld => ?_)
              clear hK K Twca
              refine wpAnyH_take (i := 13) (v := ?_) rfl (by kernel_rfl) (by kernel_rfl) (by kernel_rfl) (fun _ _ _ h => h) (Or.inl ⟨by rfl, ?_⟩) (by assumption) ?_
              rotate_left
              · intro w hSw
                go_simp
                try with_reducible rfl
              simp only [Act.put, List.getElem_toArray, List.getElem_cons_zero, List.getElem_cons_succ, List.setIfInBounds_toArray, List.set_cons_zero, List.set_cons_succ]
              refine wpAnyH_take (i := 14) (v := ?_) rfl (by kernel_rfl) (by kernel_rfl) (by kernel_rfl) (fun _ _ _ h => h) (Or.inl ⟨by rfl, ?_⟩) (by assumption) ?_
              rotate_left
              · intro w hSw
                go_simp
                try with_reducible rfl
              simp only [Act.put, List.getElem_toArray, List.getElem_cons_zero, List.getElem_cons_succ, List.setIfInBounds_toArray, List.set_cons_zero, List.set_cons_succ]
              refine wpAnyH_take (i := 15) (v := ?_) rfl (by kernel_rfl) (by kernel_rfl) (by kernel_rfl) (fun _ _ _ h => h) (Or.inl ⟨by rfl, ?_⟩) (by assumption) ?_
              rotate_left
              · intro w hSw
                go_simp
                try with_reducible rfl
              simp only [Act.put, List.getElem_toArray, List.getElem_cons_zero, List.getElem_cons_succ, List.setIfInBounds_toArray, List.set_cons_zero, List.set_cons_succ]
              refine wpAnyH_ready (rs := [16]) (by kernel_rfl) (by simp) ?_
              refine AllReadyH.cons rfl (fun K hK => ?_) AllReadyH.nil
              go_simp
              refine (Twcb.out _).mono ?_
              rintro e w3 ⟨rfl, bb⟩
              refine hK.out _ _ (keep4 hHeld bb) (fun hHeld => ?_)
              clear hK K Twcb
              refine wpAnyH_take (i := 17) (v := ?_) rfl (by kernel_rfl) (by kernel_rfl) (by kernel_rfl) (fun _ _ _ h => h) (Or.inl ⟨by rfl, ?_⟩) (by assumption) ?_
              rotate_left
              · intro w hSw
                go_simp
                try with_reducible rfl
              simp only [Act.put, List.getElem_toArray, List.getElem_cons_zero, List.getElem_cons_succ, List.setIfInBounds_toArray, List.set_cons_zero, List.set_cons_succ]
              refine wpAnyH_take (i := 18) (v := ?_) rfl (by kernel_rfl) (by kernel_rfl) (by kernel_rfl) (fun _ _ _ h => h) (Or.inl ⟨by rfl, ?_⟩) (by assumption) ?_
              rotate_left
              · intro w hSw
                go_simp
                try with_reducible rfl
              simp only [Act.put, List.getElem_toArray, List.getElem_cons_zero, List.getElem_cons_succ, List.setIfInBounds_toArray, List.set_cons_zero, List.set_cons_succ]
              refine wpAnyH_take (i := 19) (v := ?_) rfl (by kernel_rfl) (by kernel_rfl) (by kernel_rfl) (fun _ _ _ h => h) (Or.inl ⟨by rfl, ?_⟩) (by assumption) ?_
              rotate_left
              · intro w hSw
                go_simp
                try with_reducible rfl
              simp only [Act.put, List.getElem_toArray, List.getElem_cons_zero, List.getElem_cons_succ, List.setIfInBounds_toArray, List.set_cons_zero, List.set_cons_succ]
              refine wpAnyH_done (by kernel_rfl) ?_ _
              go_wp2_with fail
              exact HKA _ _ _ _ _ _ _ _ _ _ _ _ _ _ _ _ _ _ _ _ _ _ _ _ _ _ _ _ _ _ _ _ _ _ _ _ _ _ _ _ _ _ _ _ _ _ _ _ _ _ _ _ _ _ _ _ _ _ _ _ _ _ _ _ _ _ _ _ _ _ _ _ _ _ _ _ _ _ _ _ _ _ _ _ _ _ _ _ _ _ _ _ _ _ _ _ _ _ _ _ _ _ _ _ _ _ _ _ _ _ _ _ _ _ _ _ _ _ _ _ _ _ _ _ _ _ _ _ _ _ _ _ _ _ hHeld.1 hHeld.2.1 hHeld.2.2.1 hHeld.2.2.2.1 hHeld.2.2.2.2.1 hHeld.2.2.2.2.2.1 hHeld.2.2.2.2.2.2.1 hHeld.2.2.2.2.2.2.2.1 hHeld.2.2.2.2.2.2.2.2.1 hHeld.2.2.2.2.2.2.2.2.2.1 hHeld.2.2.2.2.2.2.2.2.2.2.1 hHeld.2.2.2.2.2.2.2.2.2.2.2.1 hHeld.2.2.2.2.2.2.2.2.2.2.2.2
          · cases wca
            · obtain rfl : wcm = false := by simpa using G1
              clear G1 Twcb
              refine wp_region_held_drew (S := fun W => Below w.heap.size w W ∧ W.cell? ⟨w.heap.size, 0, none⟩ = some (.string alo) ∧ W.cell? ⟨w.heap.size, 1, none⟩ = some (.string ahi) ∧ W.cell? ⟨w.heap.size, 2, none⟩ = some (.bool aop) ∧ W.cell? ⟨w.heap.size + 1, 0, none⟩ = some (.string blo) ∧ W.cell? ⟨w.heap.size + 1, 1, none⟩ = some (.string bhi) ∧ W.cell? ⟨w.heap.size + 1, 2, none⟩ = some (.bool bop) ∧ W.cell? ⟨w.heap.size + 1 + 1, 0, none⟩ = some (.string clo) ∧ W.cell? ⟨w.heap.size + 1 + 1, 1, none⟩ = some (.string chi) ∧ W.cell? ⟨w.heap.size + 1 + 1, 2, none⟩ = some (.bool cop) ∧ W.cell? ⟨pm, 0, none⟩ = some (.string mlo) ∧ W.cell? ⟨pm, 1, none⟩ = some (.string mhi) ∧ W.cell? ⟨pm, 2, none⟩ = some (.bool mop)) (by kernel_rfl) S0.out (fun hHeld => ?_)
              refine wpAnyH_take (i := 0) (v := ?_) rfl (by kernel_rfl) (by kernel_rfl) (by kernel_rfl) (fun _ _ _ h => h) (Or.inl ⟨by rfl, ?_⟩) (by assumption) ?_
              rotate_left
              · intro w hSw
                go_simp
                try with_reducible rfl
              simp only [Act.put, List.getElem_toArray, List.getElem_cons_zero, List.setIfInBounds_toArray, List.set_cons_zero, List.set_cons_succ]
              refine wpAnyH_ready (rs := [1]) (by kernel_rfl) (by simp) ?_
              refine AllReadyH.cons rfl (fun K hK => ?_) AllReadyH.nil
              go_simp
              refine (Tec.out _).mono ?_
              rintro e w3 ⟨rfl, bb⟩
              refine hK.out _ _ (keep4 hHeld bb) (fun hHeld => ?_)
              clear hK K Tec
              refine wpAnyH_take (i := 2) (v := ?_) rfl (by kernel_rfl) (by kernel_rfl) (by kernel_rfl) (fun _ _ _ h => h) (Or.inl ⟨by rfl, ?_⟩) (by assumption) ?_
              rotate_left
              · intro w hSw
                go_simp
                try with_reducible rfl
              simp only [Act.put, List.getElem_toArray, List.getElem_cons_zero, List.getElem_cons_succ, List.setIfInBounds_toArray, List.set_cons_zero, List.set_cons_succ]
              refine wpAnyH_take (i := 3) (v := ?_) rfl (by kernel_rfl) (by kernel_rfl) (by kernel_rfl) (fun _ _ _ h => h) (Or.inl ⟨by rfl, ?_⟩) (by assumption) ?_
              rotate_left
              · intro w hSw
                go_simp
                try with_reducible rfl
              simp only [Act.put, List.getElem_toArray, List.getElem_cons_zero, List.getElem_cons_succ, List.setIfInBounds_toArray, List.set_cons_zero, List.set_cons_succ]
              refine wpAnyH_take (i := 4) (v := ?_) rfl (by kernel_rfl) (by kernel_rfl) (by kernel_rfl) (fun _ _ _ h => h) (Or.inl ⟨by rfl, ?_⟩) (by assumption) ?_
              rotate_left
              · intro w hSw
                go_simp
                try with_reducible rfl
              simp only [Act.put, List.getElem_toArray, List.getElem_cons_zero, List.getElem_cons_succ, List.setIfInBounds_toArray, List.set_cons_zero, List.set_cons_succ]
              refine wpAnyH_take (i := 5) (v := ?_) rfl (by kernel_rfl) (by kernel_rfl) (by kernel_rfl) (fun _ _ _ h => h) (Or.inl ⟨by rfl, ?_⟩) (by assumption) ?_
              rotate_left
              · intro w hSw
                go_simp
                try with_reducible rfl
              simp only [Act.put, List.getElem_toArray, List.getElem_cons_zero, List.getElem_cons_succ, List.setIfInBounds_toArray, List.set_cons_zero, List.set_cons_succ]
              refine wpAnyH_take (i := 6) (v := ?_) rfl (by kernel_rfl) (by kernel_rfl) (by kernel_rfl) (fun _ _ _ h => h) (Or.inl ⟨by rfl, ?_⟩) (by assumption) ?_
              rotate_left
              · intro w hSw
                go_simp
                try with_reducible rfl
              simp only [Act.put, List.getElem_toArray, List.getElem_cons_zero, List.getElem_cons_succ, List.setIfInBounds_toArray, List.set_cons_zero, List.set_cons_succ]
              refine wpAnyH_take (i := 7) (v := ?_) rfl (by kernel_rfl) (by kernel_rfl) (by kernel_rfl) (fun _ _ _ h => h) (Or.inl ⟨by rfl, ?_⟩) (by assumption) ?_
              rotate_left
              · intro w hSw
                go_simp
                try with_reducible rfl
              simp only [Act.put, List.getElem_toArray, List.getElem_cons_zero, List.getElem_cons_succ, List.setIfInBounds_toArray, List.set_cons_zero, List.set_cons_succ]
              refine wpAnyH_take (i := 10) (v := ?_) rfl (by kernel_rfl) (by kernel_rfl) (by kernel_rfl) (fun _ _ _ h => h) (Or.inl ⟨by rfl, ?_⟩) (by assumption) ?_
              rotate_left
              · intro w hSw
                go_simp
                try with_reducible rfl
              simp only [Act.put, List.getElem_toArray, List.getElem_cons_zero, List.getElem_cons_succ, List.setIfInBounds_toArray, List.set_cons_zero, List.set_cons_succ]
              refine wpAnyH_take (i := 11) (v := ?_) rfl (by kernel_rfl) (by kernel_rfl) (by kernel_rfl) (fun _ _ _ h => h) (Or.inl ⟨by rfl, ?_⟩) (by assumption) ?_
              rotate_left
              · intro w hSw
                go_simp
                try with_reducible rfl
              simp only [Act.put, List.getElem_toArray, List.getElem_cons_zero, List.getElem_cons_succ, List.setIfInBounds_toArray, List.set_cons_zero, List.set_cons_succ]
              refine wpAnyH_ready (rs := [8]) (by kernel_rfl) (by simp) ?_
              refine AllReadyH.cons rfl (fun K hK => ?_) AllReadyH.nil
              go_simp
              refine (Twcm.out _).mono ?_
              rintro e w3 ⟨rfl, bb⟩
              refine hK.out _ _ (keep4 hHeld bb) (fun hHeld => ?_)
              clear hK K Twcm
              refine wpAnyH_take (i := 9) (v := ?_) rfl (by kernel_rfl) (by kernel_rfl) (by kernel_rfl) (fun _ _ _ h => h) (Or.inl ⟨by rfl, ?_⟩) (by assumption) ?_
              rotate_left
              · intro w hSw
                go_simp
                try with_reducible rfl
              simp only [Act.put, List.getElem_toArray, List.getElem_cons_zero, List.getElem_cons_succ, List.setIfInBounds_toArray, List.set_cons_zero, List.set_cons_succ]
              refine wpAnyH_ready (rs := [12]) (by kernel_rfl) (by simp) ?_
              refine AllReadyH.cons rfl (fun K hK => ?_) AllReadyH.nil
              go_simp
              refine (Twca.out _).mono ?_
              rintro e w3 ⟨rfl, bb⟩
              refine hK.out _ _ (keep4 hHeld bb) (fun hHeld => ?_)
              clear hK K Twca
              refine wpAnyH_take (i := 13) (v := ?_) rfl (by kernel_rfl) (by kernel_rfl) (by kernel_rfl) (fun _ _ _ h => h) (Or.inl ⟨by rfl, ?_⟩) (by assumption) ?_
              rotate_left
              · intro w hSw
                go_simp
                try with_reducible rfl
              simp only [Act.put, List.getElem_toArray, List.getElem_cons_zero, List.getElem_cons_succ, List.setIfInBounds_toArray, List.set_cons_zero, List.set_cons_succ]
              refine wpAnyH_take (i := 14) (v := undef) rfl (by kernel_rfl) (by kernel_rfl) (by kernel_rfl) (fun _ _ _ h => h) (Or.inr ⟨by rfl, rfl⟩) (by assumption) ?_
              simp only [Act.put, List.getElem_toArray, List.getElem_cons_zero, List.getElem_cons_succ, List.setIfInBounds_toArray, List.set_cons_zero, List.set_cons_succ]
              refine wpAnyH_take (i := 15) (v := undef) rfl (by kernel_rfl) (by kernel_rfl) (by kernel_rfl) (fun _ _ _ h => h) (Or.inr ⟨by rfl, rfl⟩) (by assumption) ?_
              simp only [Act.put, List.getElem_toArray, List.getElem_cons_zero, List.getElem_cons_succ, List.setIfInBounds_toArray, List.set_cons_zero, List.set_cons_succ]
              refine wpAnyH_take (i := 16) (v := undef) rfl (by kernel_rfl) (by kernel_rfl) (by kernel_rfl) (fun _ _ _ h => h) (Or.inr ⟨by rfl, rfl⟩) (by assumption) ?_
              simp only [Act.put, List.getElem_toArray, List.getElem_cons_zero, List.getElem_cons_succ, List.setIfInBounds_toArray, List.set_cons_zero, List.set_cons_succ]
              refine wpAnyH_take (i := 17) (v := ?_) rfl (by kernel_rfl) (by kernel_rfl) (by kernel_rfl) (fun _ _ _ h => h) (Or.inl ⟨by rfl, ?_⟩) (by assumption) ?_
              rotate_left
              · intro w hSw
                go_simp
                try with_reducible rfl
              simp only [Act.put, List.getElem_toArray, List.getElem_cons_zero, List.getElem_cons_succ, List.setIfInBounds_toArray, List.set_cons_zero, List.set_cons_succ]
              refine wpAnyH_take (i := 18) (v := ?_) rfl (by kernel_rfl) (by kernel_rfl) (by kernel_rfl) (fun _ _ _ h => h) (Or.inl ⟨by rfl, ?_⟩) (by assumption) ?_
              rotate_left
              · intro w hSw
                go_simp
                try with_reducible rfl
              simp only [Act.put, List.getElem_toArray, List.getElem_cons_zero, List.getElem_cons_succ, List.setIfInBounds_toArray, List.set_cons_zero, List.set_cons_succ]
              refine wpAnyH_take (i := 19) (v := ?_) rfl (by kernel_rfl) (by kernel_rfl) (by kernel_rfl) (fun _ _ _ h => h) (Or.inl ⟨by rfl, ?_⟩) (by assumption) ?_
              rotate_left
              · intro w hSw
                go_simp
                try with_reducible rfl
              simp only [Act.put, List.getElem_toArray, List.getElem_cons_zero, List.getElem_cons_succ, List.setIfInBounds_toArray, List.set_cons_zero, List.set_cons_succ]
              refine wpAnyH_done (by kernel_rfl) ?_ _
              go_wp2_with fail
              exact HKA _ _ _ _ _ _ _ _ _ _ _ _ _ _ _ _ _ _ _ _ _ _ _ _ _ _ _ _ _ _ _ _ _ _ _ _ _ _ _ _ _ _ _ _ _ _ _ _ _ _ _ _ _ _ _ _ _ _ _ _ _ _ _ _ _ _ _ _ _ _ _ _ _ _ _ _ _ _ _ _ _ _ _ _ _ _ _ _ _ _ _ _ _ _ _ _ _ _ _ _ _ _ _ _ _ _ _ _ _ _ _ _ _ _ _ _ _ _ _ _ _ _ _ _ _ _ _ _ _ _ _ _ _ _ hHeld.1 hHeld.2.1 hHeld.2.2.1 hHeld.2.2.2.1 hHeld.2.2.2.2.1 hHeld.2.2.2.2.2.1 hHeld.2.2.2.2.2.2.1 hHeld.2.2.2.2.2.2.2.1 hHeld.2.2.2.2.2.2.2.2.1 hHeld.2.2.2.2.2.2.2.2.2.1 hHeld.2.2.2.2.2.2.2.2.2.2.1 hHeld.2.2.2.2.2.2.2.2.2.2.2.1 hHeld.2.2.2.2.2.2.2.2.2.2.2.2
            · obtain rfl : wcm = wcb := by simpa using G1
              clear G1
              cases wcm
              · refine wp_region_held_drew (S := fun W => Below w.heap.size w W ∧ W.cell? ⟨w.heap.size, 0, none⟩ = some (.string alo) ∧ W.cell? ⟨w.heap.size, 1, none⟩ = some (.string ahi) ∧ W.cell? ⟨w.heap.size, 2, none⟩ = some (.bool aop) ∧ W.cell? ⟨w.heap.size + 1, 0, none⟩ = some (.string blo) ∧ W.cell? ⟨w.heap.size + 1, 1, none⟩ = some (.string bhi) ∧ W.cell? ⟨w.heap.size + 1, 2, none⟩ = some (.bool bop) ∧ W.cell? ⟨w.heap.size + 1 + 1, 0, none⟩ = some (.string clo) ∧ W.cell? ⟨w.heap.size + 1 + 1, 1, none⟩ = some (.string chi) ∧ W.cell? ⟨w.heap.size + 1 + 1, 2, none⟩ = some (.bool cop) ∧ W.cell? ⟨pm, 0, none⟩ = some (.string mlo) ∧ W.cell? ⟨pm, 1, none⟩ = some (.string mhi) ∧ W.cell? ⟨pm, 2, none⟩ = some (.bool mop)) (by kernel_rfl) S0.out (fun hHeld => ?_)
                refine wpAnyH_take (i := 0) (v := ?_) rfl (by kernel_rfl) (by kernel_rfl) (by kernel_rfl) (fun _ _ _ h => h) (Or.inl ⟨by rfl, ?_⟩) (by assumption) ?_
                rotate_left
                · intro w hSw
                  go_simp
                  try with_reducible rfl
                simp only [Act.put, List.getElem_toArray, List.getElem_cons_zero, List.setIfInBounds_toArray, List.set_cons_zero, List.set_cons_succ]
                refine wpAnyH_ready (rs := [1]) (by kernel_rfl) (by simp) ?_
                refine AllReadyH.cons rfl (fun K hK => ?_) AllReadyH.nil
                go_simp
                refine (Tec.out _).mono ?_
                rintro e w3 ⟨rfl, bb⟩
                refine hK.out _ _ (keep4 hHeld bb) (fun hHeld => ?_)
                clear hK K Tec
                refine wpAnyH_take (i := 2) (v := ?_) rfl (by kernel_rfl) (by kernel_rfl) (by kernel_rfl) (fun _ _ _ h => h) (Or.inl ⟨by rfl, ?_⟩) (by assumption) ?_
                rotate_left
                · intro w hSw
                  go_simp
                  try with_reducible rfl
                simp only [Act.put, List.getElem_toArray, List.getElem_cons_zero, List.getElem_cons_succ, List.setIfInBounds_toArray, List.set_cons_zero, List.set_cons_succ]
                refine wpAnyH_take (i := 3) (v := ?_) rfl (by kernel_rfl) (by kernel_rfl) (by kernel_rfl) (fun _ _ _ h => h) (Or.inl ⟨by rfl, ?_⟩) (by assumption) ?_
                rotate_left
                · intro w hSw
                  go_simp
                  try with_reducible rfl
                simp only [Act.put, List.getElem_toArray, List.getElem_cons_zero, List.getElem_cons_succ, List.setIfInBounds_toArray, List.set_cons_zero, List.set_cons_succ]
                refine wpAnyH_take (i := 4) (v := ?_) rfl (by kernel_rfl) (by kernel_rfl) (by kernel_rfl) (fun _ _ _ h => h) (Or.inl ⟨by rfl, ?_⟩) (by assumption) ?_
                rotate_left
                · intro w hSw
                  go_simp
                  try with_reducible rfl
                simp only [Act.put, List.getElem_toArray, List.getElem_cons_zero, List.getElem_cons_succ, List.setIfInBounds_toArray, List.set_cons_zero, List.set_cons_succ]
                refine wpAnyH_take (i := 5) (v := ?_) rfl (by kernel_rfl) (by kernel_rfl) (by kernel_rfl) (fun _ _ _ h => h) (Or.inl ⟨by rfl, ?_⟩) (by assumption) ?_
                rotate_left
                · intro w hSw
                  go_simp
                  try with_reducible rfl
                simp only [Act.put, List.getElem_toArray, List.getElem_cons_zero, List.getElem_cons_succ, List.setIfInBounds_toArray, List.set_cons_zero, List.set_cons_succ]
                refine wpAnyH_take (i := 6) (v := ?_) rfl (by kernel_rfl) (by kernel_rfl) (by kernel_rfl) (fun _ _ _ h => h) (Or.inl ⟨by rfl, ?_⟩) (by assumption) ?_
                rotate_left
                · intro w hSw
                  go_simp
                  try with_reducible rfl
                simp only [Act.put, List.getElem_toArray, List.getElem_cons_zero, List.getElem_cons_succ, List.setIfInBounds_toArray, List.set_cons_zero, List.set_cons_succ]
                refine wpAnyH_take (i := 7) (v := ?_) rfl (by kernel_rfl) (by kernel_rfl) (by kernel_rfl) (fun _ _ _ h => h) (Or.inl ⟨by rfl, ?_⟩) (by assumption) ?_
                rotate_left
                · intro w hSw
                  go_simp
                  try with_reducible rfl
                simp only [Act.put, List.getElem_toArray, List.getElem_cons_zero, List.getElem_cons_succ, List.setIfInBounds_toArray, List.set_cons_zero, List.set_cons_succ]
                refine wpAnyH_take (i := 10) (v := ?_) rfl (by kernel_rfl) (by kernel_rfl) (by kernel_rfl) (fun _ _ _ h => h) (Or.inl ⟨by rfl, ?_⟩) (by assumption) ?_
                rotate_left
                · intro w hSw
                  go_simp
                  try with_reducible rfl
                simp only [Act.put, List.getElem_toArray, List.getElem_cons_zero, List.getElem_cons_succ, List.setIfInBounds_toArray, List.set_cons_zero, List.set_cons_succ]
                refine wpAnyH_take (i := 11) (v := ?_) rfl (by kernel_rfl) (by kernel_rfl) (by kernel_rfl) (fun _ _ _ h => h) (Or.inl ⟨by rfl, ?_⟩) (by assumption) ?_
                rotate_left
                · intro w hSw
                  go_simp
                  try with_reducible rfl
                simp only [Act.put, List.getElem_toArray, List.getElem_cons_zero, List.getElem_cons_succ, List.setIfInBounds_toArray, List.set_cons_zero, List.set_cons_succ]
                refine wpAnyH_ready (rs := [8]) (by kernel_rfl) (by simp) ?_
                refine AllReadyH.cons rfl (fun K hK => ?_) AllReadyH.nil
                go_simp
                refine (Twcm.out _).mono ?_
                rintro e w3 ⟨rfl, bb⟩
                refine hK.out _ _ (keep4 hHeld bb) (fun hHeld => ?_)
                clear hK K Twcm
                refine wpAnyH_take (i := 9) (v := ?_) rfl (by kernel_rfl) (by kernel_rfl) (by kernel_rfl) (fun _ _ _ h => h) (Or.inl ⟨by rfl, ?_⟩) (by assumption) ?_
                rotate_left
                · intro w hSw
                  go_simp
                  try with_reducible rfl
                simp only [Act.put, List.getElem_toArray, List.getElem_cons_zero, List.getElem_cons_succ, List.setIfInBounds_toArray, List.set_cons_zero, List.set_cons_succ]
                refine wpAnyH_ready (rs := [12]) (by kernel_rfl) (by simp) ?_
                refine AllReadyH.cons rfl (fun K hK => ?_) AllReadyH.nil
                go_simp
                refine (Twca.out _).mono ?_
                rintro e w3 ⟨rfl, bb⟩
                refine hK.out _ _ (keep4 hHeld bb) (fun hHeld => ?_)
                clear hK K Twca
                refine wpAnyH_take (i := 13) (v := ?_) rfl (by kernel_rfl) (by kernel_rfl) (by kernel_rfl) (fun _ _ _ h => h) (Or.inl ⟨by rfl, ?_⟩) (by assumption) ?_
                rotate_left
                · intro w hSw
                  go_simp
                  try with_reducible rfl
                simp only [Act.put, List.getElem_toArray, List.getElem_cons_zero, List.getElem_cons_succ, List.setIfInBounds_toArray, List.set_cons_zero, List.set_cons_succ]
                refine wpAnyH_take (i := 14) (v := ?_) rfl (by kernel_rfl) (by kernel_rfl) (by kernel_rfl) (fun _ _ _ h => h) (Or.inl ⟨by rfl, ?_⟩) (by assumption) ?_
                rotate_left
                · intro w hSw
                  go_simp
                  try with_reducible rfl
                simp only [Act.put, List.getElem_toArray, List.getElem_cons_zero, List.getElem_cons_succ, List.setIfInBounds_toArray, List.set_cons_zero, List.set_cons_succ]
                refine wpAnyH_take (i := 15) (v := ?_) rfl (by kernel_rfl) (by kernel_rfl) (by kernel_rfl) (fun _ _ _ h => h) (Or.inl ⟨by rfl, ?_⟩) (by assumption) ?_
                rotate_left
                · intro w hSw
                  go_simp
                  try with_reducible rfl
                simp only [Act.put, List.getElem_toArray, List.getElem_cons_zero, List.getElem_cons_succ, List.setIfInBounds_toArray, List.set_cons_zero, List.set_cons_succ]
                refine wpAnyH_ready (rs := [16]) (by kernel_rfl) (by simp) ?_
                refine AllReadyH.cons rfl (fun K hK => ?_) AllReadyH.nil
                go_simp
                refine (Twcb.out _).mono ?_
                rintro e w3 ⟨rfl, bb⟩
                refine hK.out _ _ (keep4 hHeld bb) (fun hHeld => ?_)
                clear hK K Twcb
                refine wpAnyH_take (i := 17) (v := ?_) rfl (by kernel_rfl) (by kernel_rfl) (by kernel_rfl) (fun _ _ _ h => h) (Or.inl ⟨by rfl, ?_⟩) (by assumption) ?_
                rotate_left
                · intro w hSw
                  go_simp
                  try with_reducible rfl
                simp only [Act.put, List.getElem_toArray, List.getElem_cons_zero, List.getElem_cons_succ, List.setIfInBounds_toArray, List.set_cons_zero, List.set_cons_succ]
                refine wpAnyH_take (i := 18) (v := ?_) rfl (by kernel_rfl) (by kernel_rfl) (by kernel_rfl) (fun _ _ _ h => h) (Or.inl ⟨by rfl, ?_⟩) (by assumption) ?_
                rotate_left
                · intro w hSw
                  go_simp
                  try with_reducible rfl
                simp only [Act.put, List.getElem_toArray, List.getElem_cons_zero, List.getElem_cons_succ, List.setIfInBounds_toArray, List.set_cons_zero, List.set_cons_succ]
                refine wpAnyH_take (i := 19) (v := ?_) rfl (by kernel_rfl) (by kernel_rfl) (by kernel_rfl) (fun _ _ _ h => h) (Or.inl ⟨by rfl, ?_⟩) (by assumption) ?_
                rotate_left
                · intro w hSw
                  go_simp
                  try with_reducible rfl
                simp only [Act.put, List.getElem_toArray, List.getElem_cons_zero, List.getElem_cons_succ, List.setIfInBounds_toArray, List.set_cons_zero, List.set_cons_succ]
                refine wpAnyH_done (by kernel_rfl) ?_ _
                go_wp2_with fail
                exact HKA _ _ _ _ _ _ _ _ _ _ _ _ _ _ _ _ _ _ _ _ _ _ _ _ _ _ _ _ _ _ _ _ _ _ _ _ _ _ _ _ _ _ _ _ _ _ _ _ _ _ _ _ _ _ _ _ _ _ _ _ _ _ _ _ _ _ _ _ _ _ _ _ _ _ _ _ _ _ _ _ _ _ _ _ _ _ _ _ _ _ _ _ _ _ _ _ _ _ _ _ _ _ _ _ _ _ _ _ _ _ _ _ _ _ _ _ _ _ _ _ _ _ _ _ _ _ _ _ _ _ _ _ _ _ hHeld.1 hHeld.2.1 hHeld.2.2.1 hHeld.2.2.2.1 hHeld.2.2.2.2.1 hHeld.2.2.2.2.2.1 hHeld.2.2.2.2.2.2.1 hHeld.2.2.2.2.2.2.2.1 hHeld.2.2.2.2.2.2.2.2.1 hHeld.2.2.2.2.2.2.2.2.2.1 hHeld.2.2.2.2.2.2.2.2.2.2.1 hHeld.2.2.2.2.2.2.2.2.2.2.2.1 hHeld.2.2.2.2.2.2.2.2.2.2.2.2
              · refine wp_region_held_drew (S := fun W => Below w.heap.size w W ∧ W.cell? ⟨w.heap.size, 0, none⟩ = some (.string alo) ∧ W.cell? ⟨w.heap.size, 1, none⟩ = some (.string ahi) ∧ W.cell? ⟨w.heap.size, 2, none⟩ = some (.bool aop) ∧ W.cell? ⟨w.heap.size + 1, 0, none⟩ = some (.string blo) ∧ W.cell? ⟨w.heap.size + 1, 1, none⟩ = some (.string bhi) ∧ W.cell? ⟨w.heap.size + 1, 2, none⟩ = some (.bool bop) ∧ W.cell? ⟨w.heap.size + 1 + 1, 0, none⟩ = some (.string clo) ∧ W.cell? ⟨w.heap.size + 1 + 1, 1, none⟩ = some (.string chi) ∧ W.cell? ⟨w.heap.size + 1 + 1, 2, none⟩ = some (.bool cop) ∧ W.cell? ⟨pm, 0, none⟩ = some (.string mlo) ∧ W.cell? ⟨pm, 1, none⟩ = some (.string mhi) ∧ W.cell? ⟨pm, 2, none⟩ = some (.bool mop)) (by kernel_rfl) S0.out (fun hHeld => ?_)
                refine wpAnyH_take (i := 0) (v := ?_) rfl (by kernel_rfl) (by kernel_rfl) (by kernel_rfl) (fun _ _ _ h => h) (Or.inl ⟨by rfl, ?_⟩) (by assumption) ?_
                rotate_left
                · intro w hSw
                  go_simp
                  try with_reducible rfl
                simp only [Act.put, List.getElem_toArray, List.getElem_cons_zero, List.setIfInBounds_toArray, List.set_cons_zero, List.set_cons_succ]
                refine wpAnyH_ready (rs := [1]) (by kernel_rfl) (by simp) ?_
                refine AllReadyH.cons rfl (fun K hK => ?_) AllReadyH.nil
                go_simp
                refine (Tec.out _).mono ?_
                rintro e w3 ⟨rfl, bb⟩
                refine hK.out _ _ (keep4 hHeld bb) (fun hHeld => ?_)
                clear hK K Tec
                refine wpAnyH_take (i := 2) (v := ?_) rfl (by kernel_rfl) (by kernel_rfl) (by kernel_rfl) (fun _ _ _ h => h) (Or.inl ⟨by rfl, ?_⟩) (by assumption) ?_
                rotate_left
                · intro w hSw
                  go_simp
                  try with_reducible rfl
                simp only [Act.put, List.getElem_toArray, List.getElem_cons_zero, List.getElem_cons_succ, List.setIfInBounds_toArray, List.set_cons_zero, List.set_cons_succ]
                refine wpAnyH_take (i := 3) (v := ?_) rfl (by kernel_rfl) (by kernel_rfl) (by kernel_rfl) (fun _ _ _ h => h) (Or.inl ⟨by rfl, ?_⟩) (by assumption) ?_
                rotate_left
                · intro w hSw
                  go_simp
                  try with_reducible rfl
                simp only [Act.put, List.getElem_toArray, List.getElem_cons_zero, List.getElem_cons_succ, List.setIfInBounds_toArray, List.set_cons_zero, List.set_cons_succ]
                refine wpAnyH_take (i := 4) (v := ?_) rfl (by kernel_rfl) (by kernel_rfl) (by kernel_rfl) (fun _ _ _ h => h) (Or.inl ⟨by rfl, ?_⟩) (by assumption) ?_
                rotate_left
                · intro w hSw
                  go_simp
                  try with_reducible rfl
                simp only [Act.put, List.getElem_toArray, List.getElem_cons_zero, List.getElem_cons_succ, List.setIfInBounds_toArray, List.set_cons_zero, List.set_cons_succ]
                refine wpAnyH_take (i := 5) (v := ?_) rfl (by kernel_rfl) (by kernel_rfl) (by kernel_rfl) (fun _ _ _ h => h) (Or.inl ⟨by rfl, ?_⟩) (by assumption) ?_
                rotate_left
                · intro w hSw
                  go_simp
                  try with_reducible rfl
                simp only [Act.put, List.getElem_toArray, List.getElem_cons_zero, List.getElem_cons_succ, List.setIfInBounds_toArray, List.set_cons_zero, List.set_cons_succ]
                refine wpAnyH_take (i := 6) (v := ?_) rfl (by kernel_rfl) (by kernel_rfl) (by kernel_rfl) (fun _ _ _ h => h) (Or.inl ⟨by rfl, ?_⟩) (by assumption) ?_
                rotate_left
                · intro w hSw
                  go_simp
                  try with_reducible rfl
                simp only [Act.put, List.getElem_toArray, List.getElem_cons_zero, List.getElem_cons_succ, List.setIfInBounds_toArray, List.set_cons_zero, List.set_cons_succ]
                refine wpAnyH_take (i := 7) (v := ?_) rfl (by kernel_rfl) (by kernel_rfl) (by kernel_rfl) (fun _ _ _ h => h) (Or.inl ⟨by rfl, ?_⟩) (by assumption) ?_
                rotate_left
                · intro w hSw
                  go_simp
                  try with_reducible rfl
                simp only [Act.put, List.getElem_toArray, List.getElem_cons_zero, List.getElem_cons_succ, List.setIfInBounds_toArray, List.set_cons_zero, List.set_cons_succ]
                refine wpAnyH_take (i := 10) (v := ?_) rfl (by kernel_rfl) (by kernel_rfl) (by kernel_rfl) (fun _ _ _ h => h) (Or.inl ⟨by rfl, ?_⟩) (by assumption) ?_
                rotate_left
                · intro w hSw
                  go_simp
                  try with_reducible rfl
                simp only [Act.put, List.getElem_toArray, List.getElem_cons_zero, List.getElem_cons_succ, List.setIfInBounds_toArray, List.set_cons_zero, List.set_cons_succ]
                refine wpAnyH_take (i := 11) (v := ?_) rfl (by kernel_rfl) (by kernel_rfl) (by kernel_rfl) (fun _ _ _ h => h) (Or.inl ⟨by rfl, ?_⟩) (by assumption) ?_
                rotate_left
                · intro w hSw
                  go_simp
                  try with_reducible rfl
                simp only [Act.put, List.getElem_toArray, List.getElem_cons_zero, List.getElem_cons_succ, List.setIfInBounds_toArray, List.set_cons_zero, List.set_cons_succ]
                refine wpAnyH_ready (rs := [8]) (by kernel_rfl) (by simp) ?_
                refine AllReadyH.cons rfl (fun K hK => ?_) AllReadyH.nil
                go_simp
                refine (Twcm.out _).mono ?_
                rintro e w3 ⟨rfl, bb⟩
                refine hK.out _ _ (keep4 hHeld bb) (fun hHeld => ?_)
                clear hK K Twcm
                refine wpAnyH_take (i := 9) (v := ?_) rfl (by kernel_rfl) (by kernel_rfl) (by kernel_rfl) (fun _ _ _ h => h) (Or.inl ⟨by rfl, ?_⟩) (by assumption) ?_
                rotate_left
                · intro w hSw
                  go_simp
                  try with_reducible rfl
                simp only [Act.put, List.getElem_toArray, List.getElem_cons_zero, List.getElem_cons_succ, List.setIfInBounds_toArray, List.set_cons_zero, List.set_cons_succ]
                refine wpAnyH_ready (rs := [12]) (by kernel_rfl) (by simp) ?_
                refine AllReadyH.cons rfl (fun K hK => ?_) AllReadyH.nil
                go_simp
                refine (Twca.out _).mono ?_
                rintro e w3 ⟨rfl, bb⟩
                refine hK.out _ _ (keep4 hHeld bb) (fun hHeld => ?_)
                clear hK K Twca
                refine wpAnyH_take (i := 13) (v := ?_) rfl (by kernel_rfl) (by kernel_rfl) (by kernel_rfl) (fun _ _ _ h => h) (Or.inl ⟨by rfl, ?_⟩) (by assumption) ?_
                rotate_left
                · intro w hSw
                  go_simp
                  try with_reducible rfl
                simp only [Act.put, List.getElem_toArray, List.getElem_cons_zero, List.getElem_cons_succ, List.setIfInBounds_toArray, List.set_cons_zero, List.set_cons_succ]
                refine wpAnyH_take (i := 14) (v := ?_) rfl (by kernel_rfl) (by kernel_rfl) (by kernel_rfl) (fun _ _ _ h => h) (Or.inl ⟨by rfl, ?_⟩) (by assumption) ?_
                rotate_left
                · intro w hSw
                  go_simp
                  try with_reducible rfl
                simp only [Act.put, List.getElem_toArray, List.getElem_cons_zero, List.getElem_cons_succ, List.setIfInBounds_toArray, List.set_cons_zero, List.set_cons_succ]
                refine wpAnyH_take (i := 15) (v := ?_) rfl (by kernel_rfl) (by kernel_rfl) (by kernel_rfl) (fun _ _ _ h => h) (Or.inl ⟨by rfl, ?_⟩) (by assumption) ?_
                rotate_left
                · intro w hSw
                  go_simp
                  try with_reducible rfl
                simp only [Act.put, List.getElem_toArray, List.getElem_cons_zero, List.getElem_cons_succ, List.setIfInBounds_toArray, List.set_cons_zero, List.set_cons_succ]
                refine wpAnyH_ready (rs := [16]) (by kernel_rfl) (by simp) ?_
                refine AllReadyH.cons rfl (fun K hK => ?_) AllReadyH.nil
                go_simp
                refine (Twcb.out _).mono ?_
                rintro e w3 ⟨rfl, bb⟩
                refine hK.out _ _ (keep4 hHeld bb) (fun hHeld => ?_)
                clear hK K Twcb
                refine wpAnyH_take (i := 17) (v := ?_) rfl (by kernel_rfl) (by kernel_rfl) (by kernel_rfl) (fun _ _ _ h => h) (Or.inl ⟨by rfl, ?_⟩) (by assumption) ?_
                rotate_left
                · intro w hSw
                  go_simp
                  try with_reducible rfl
                simp only [Act.put, List.getElem_toArray, List.getElem_cons_zero, List.getElem_cons_succ, List.setIfInBounds_toArray, List.set_cons_zero, List.set_cons_succ]
                refine wpAnyH_take (i := 18) (v := ?_) rfl (by kernel_rfl) (by kernel_rfl) (by kernel_rfl) (fun _ _ _ h => h) (Or.inl ⟨by rfl, ?_⟩) (by assumption) ?_
                rotate_left
                · intro w hSw
                  go_simp
                  try with_reducible rfl
                simp only [Act.put, List.getElem_toArray, List.getElem_cons_zero, List.getElem_cons_succ, List.setIfInBounds_toArray, List.set_cons_zero, List.set_cons_succ]
                refine wpAnyH_take (i := 19) (v := ?_) rfl (by kernel_rfl) (by kernel_rfl) (by kernel_rfl) (fun _ _ _ h => h) (Or.inl ⟨by rfl, ?_⟩) (by assumption) ?_
                rotate_left
                · intro w hSw
                  go_simp
                  try with_reducible rfl
                simp only [Act.put, List.getElem_toArray, List.getElem_cons_zero, List.getElem_cons_succ, List.setIfInBounds_toArray, List.set_cons_zero, List.set_cons_succ]
                refine wpAnyH_done (by kernel_rfl) ?_ _
                go_wp2_with fail
                exact HKA _ _ _ _ _ _ _ _ _ _ _ _ _ _ _ _ _ _ _ _ _ _ _ _ _ _ _ _ _ _ _ _ _ _ _ _ _ _ _ _ _ _ _ _ _ _ _ _ _ _ _ _ _ _ _ _ _ _ _ _ _ _ _ _ _ _ _ _ _ _ _ _ _ _ _ _ _ _ _ _ _ _ _ _ _ _ _ _ _ _ _ _ _ _ _ _ _ _ _ _ _ _ _ _ _ _ _ _ _ _ _ _ _ _ _ _ _ _ _ _ _ _ _ _ _ _ _ _ _ _ _ _ _ _ hHeld.1 hHeld.2.1 hHeld.2.2.1 hHeld.2.2.2.1 hHeld.2.2.2.2.1 hHeld.2.2.2.2.2.1 hHeld.2.2.2.2.2.2.1 hHeld.2.2.2.2.2.2.2.1 hHeld.2.2.2.2.2.2.2.2.1 hHeld.2.2.2.2.2.2.2.2.2.1 hHeld.2.2.2.2.2.2.2.2.2.2.1 hHeld.2.2.2.2.2.2.2.2.2.2.2.1 hHeld.2.2.2.2.2.2.2.2.2.2.2.2
        · clear G1 Twcm Twca Twcb
          refine wp_region_held_drew (S := fun W => Below w.heap.size w W ∧ W.cell? ⟨w.heap.size, 0, none⟩ = some (.string alo) ∧ W.cell? ⟨w.heap.size, 1, none⟩ = some (.string ahi) ∧ W.cell? ⟨w.heap.size, 2, none⟩ = some (.bool aop) ∧ W.cell? ⟨w.heap.size + 1, 0, none⟩ = some (.string blo) ∧ W.cell? ⟨w.heap.size + 1, 1, none⟩ = some (.string bhi) ∧ W.cell? ⟨w.heap.size + 1, 2, none⟩ = some (.bool bop) ∧ W.cell? ⟨w.heap.size + 1 + 1, 0, none⟩ = some (.string clo) ∧ W.cell? ⟨w.heap.size + 1 + 1, 1, none⟩ = some (.string chi) ∧ W.cell? ⟨w.heap.size + 1 + 1, 2, none⟩ = some (.bool cop) ∧ W.cell? ⟨pm, 0, none⟩ = some (.string mlo) ∧ W.cell? ⟨pm, 1, none⟩ = some (.string mhi) ∧ W.cell? ⟨pm, 2, none⟩ = some (.bool mop)) (by kernel_rfl) S0.out (fun hHeld => ?_)
          refine wpAnyH_take (i := 0) (v := ?_) rfl (by kernel_rfl) (by kernel_rfl) (by kernel_rfl) (fun _ _ _ h => h) (Or.inl ⟨by rfl, ?_⟩) (by assumption) ?_
          rotate_left
          · intro w hSw
            go_simp
            try with_reducible rfl
          simp only [Act.put, List.getElem_toArray, List.getElem_cons_zero, List.setIfInBounds_toArray, List.set_cons_zero, List.set_cons_succ]
          refine wpAnyH_ready (rs := [1]) (by kernel_rfl) (by simp) ?_
          refine AllReadyH.cons rfl (fun K hK => ?_) AllReadyH.nil
          go_simp
          refine (Tec.out _).mono ?_
          rintro e w3 ⟨rfl, bb⟩
          refine hK.out _ _ (keep4 hHeld bb) (fun hHeld => ?_)
          clear hK K Tec
          refine wpAnyH_take (i := 2) (v := ?_) rfl (by kernel_rfl) (by kernel_rfl) (by kernel_rfl) (fun _ _ _ h => h) (Or.inl ⟨by rfl, ?_⟩) (by assumption) ?_
          rotate_left
          · intro w hSw
            go_simp
            try with_reducible rfl
          simp only [Act.put, List.getElem_toArray, List.getElem_cons_zero, List.getElem_cons_succ, List.setIfInBounds_toArray, List.set_cons_zero, List.set_cons_succ]
          refine wpAnyH_take (i := 3) (v := ?_) rfl (by kernel_rfl) (by kernel_rfl) (by kernel_rfl) (fun _ _ _ h => h) (Or.inl ⟨by rfl, ?_⟩) (by assumption) ?_
          rotate_left
          · intro w hSw
            go_simp
            try with_reducible rfl
          simp only [Act.put, List.getElem_toArray, List.getElem_cons_zero, List.getElem_cons_succ, List.setIfInBounds_toArray, List.set_cons_zero, List.set_cons_succ]
          refine wpAnyH_take (i := 4) (v := undef) rfl (by kernel_rfl) (by kernel_rfl) (by kernel_rfl) (fun _ _ _ h => h) (Or.inr ⟨by rfl, rfl⟩) (by assumption) ?_
          simp only [Act.put, List.getElem_toArray, List.getElem_cons_zero, List.getElem_cons_succ, List.setIfInBounds_toArray, List.set_cons_zero, List.set_cons_succ]
          refine wpAnyH_take (i := 5) (v := undef) rfl (by kernel_rfl) (by kernel_rfl) (by kernel_rfl) (fun _ _ _ h => h) (Or.inr ⟨by rfl, rfl⟩) (by assumption) ?_
          simp only [Act.put, List.getElem_toArray, List.getElem_cons_zero, List.getElem_cons_succ, List.setIfInBounds_toArray, List.set_cons_zero, List.set_cons_succ]
          refine wpAnyH_take (i := 6) (v := undef) rfl (by kernel_rfl) (by kernel_rfl) (by kernel_rfl) (fun _ _ _ h => h) (Or.inr ⟨by rfl, rfl⟩) (by assumption) ?_
          simp only [Act.put, List.getElem_toArray, List.getElem_cons_zero, List.getElem_cons_succ, List.setIfInBounds_toArray, List.set_cons_zero, List.set_cons_succ]
          refine wpAnyH_take (i := 7) (v := undef) rfl (by kernel_rfl) (by kernel_rfl) (by kernel_rfl) (fun _ _ _ h => h) (Or.inr ⟨by rfl, rfl⟩) (by assumption) ?_
          simp only [Act.put, List.getElem_toArray, List.getElem_cons_zero, List.getElem_cons_succ, List.setIfInBounds_toArray, List.set_cons_zero, List.set_cons_succ]
          refine wpAnyH_take (i := 8) (v := undef) rfl (by kernel_rfl) (by kernel_rfl) (by kernel_rfl) (fun _ _ _ h => h) (Or.inr ⟨by rfl, rfl⟩) (by assumption) ?_
          simp only [Act.put, List.getElem_toArray, List.getElem_cons_zero, List.getElem_cons_succ, List.setIfInBounds_toArray, List.set_cons_zero, List.set_cons_succ]
          refine wpAnyH_take (i := 9) (v := undef) rfl (by kernel_rfl) (by kernel_rfl) (by kernel_rfl) (fun _ _ _ h => h) (Or.inr ⟨by rfl, rfl⟩) (by assumption) ?_
          simp only [Act.put, List.getElem_toArray, List.getElem_cons_zero, List.getElem_cons_succ, List.setIfInBounds_toArray, List.set_cons_zero, List.set_cons_succ]
          refine wpAnyH_take (i := 10) (v := undef) rfl (by kernel_rfl) (by kernel_rfl) (by kernel_rfl) (fun _ _ _ h => h) (Or.inr ⟨by rfl, rfl⟩) (by assumption) ?_
          simp only [Act.put, List.getElem_toArray, List.getElem_cons_zero, List.getElem_cons_succ, List.setIfInBounds_toArray, List.set_cons_zero, List.set_cons_succ]
          refine wpAnyH_take (i := 11) (v := undef) rfl (by kernel_rfl) (by kernel_rfl) (by kernel_rfl) (fun _ _ _ h => h) (Or.inr ⟨by rfl, rfl⟩) (by assumption) ?_
          simp only [Act.put, List.getElem_toArray, List.getElem_cons_zero, List.getElem_cons_succ, List.setIfInBounds_toArray, List.set_cons_zero, List.set_cons_succ]
          refine wpAnyH_take (i := 12) (v := undef) rfl (by kernel_rfl) (by kernel_rfl) (by kernel_rfl) (fun _ _ _ h => h) (Or.inr ⟨by rfl, rfl⟩) (by assumption) ?_
          simp only [Act.put, List.getElem_toArray, List.getElem_cons_zero, List.getElem_cons_succ, List.setIfInBounds_toArray, List.set_cons_zero, List.set_cons_succ]
          refine wpAnyH_take (i := 13) (v := undef) rfl (by kernel_rfl) (by kernel_rfl) (by kernel_rfl) (fun _ _ _ h => h) (Or.inr ⟨by rfl, rfl⟩) (by assumption) ?_
          simp only [Act.put, List.getElem_toArray, List.getElem_cons_zero, List.getElem_cons_succ, List.setIfInBounds_toArray, List.set_cons_zero, List.set_cons_succ]
          refine wpAnyH_take (i := 14) (v := undef) rfl (by kernel_rfl) (by kernel_rfl) (by kernel_rfl) (fun _ _ _ h => h) (Or.inr ⟨by rfl, rfl⟩) (by assumption) ?_
          simp only [Act.put, List.getElem_toArray, List.getElem_cons_zero, List.getElem_cons_succ, List.setIfInBounds_toArray, List.set_cons_zero, List.set_cons_succ]
          refine wpAnyH_take (i := 15) (v := undef) rfl (by kernel_rfl) (by kernel_rfl) (by kernel_rfl) (fun _ _ _ h => h) (Or.inr ⟨by rfl, rfl⟩) (by assumption) ?_
          simp only [Act.put, List.getElem_toArray, List.getElem_cons_zero, List.getElem_cons_succ, List.setIfInBounds_toArray, List.set_cons_zero, List.set_cons_succ]
          refine wpAnyH_take (i := 16) (v := undef) rfl (by kernel_rfl) (by kernel_rfl) (by kernel_rfl) (fun _ _ _ h => h) (Or.inr ⟨by rfl, rfl⟩) (by assumption) ?_
          simp only [Act.put, List.getElem_toArray, List.getElem_cons_zero, List.getElem_cons_succ, List.setIfInBounds_toArray, List.set_cons_zero, List.set_cons_succ]
          refine wpAnyH_take (i := 17) (v := undef) rfl (by kernel_rfl) (by kernel_rfl) (by kernel_rfl) (fun _ _ _ h => h) (Or.inr ⟨by rfl, rfl⟩) (by assumption) ?_
          simp only [Act.put, List.getElem_toArray, List.getElem_cons_zero, List.getElem_cons_succ, List.setIfInBounds_toArray, List.set_cons_zero, List.set_cons_succ]
          refine wpAnyH_take (i := 18) (v := undef) rfl (by kernel_rfl) (by kernel_rfl) (by kernel_rfl) (fun _ _ _ h => h) (Or.inr ⟨by rfl, rfl⟩) (by assumption) ?_
          simp only [Act.put, List.getElem_toArray, List.getElem_cons_zero, List.getElem_cons_succ, List.setIfInBounds_toArray, List.set_cons_zero, List.set_cons_succ]
          refine wpAnyH_take (i := 19) (v := ?_) rfl (by kernel_rfl) (by kernel_rfl) (by kernel_rfl) (fun _ _ _ h => h) (Or.inl ⟨by rfl, ?_⟩) (by assumption) ?_
          rotate_left
          · intro w hSw
            go_simp
            try with_reducible rfl
          simp only [Act.put, List.getElem_toArray, List.getElem_cons_zero, List.getElem_cons_succ, List.setIfInBounds_toArray, List.set_cons_zero, List.set_cons_succ]
          refine wpAnyH_done (by kernel_rfl) ?_ _
          go_wp2_with fail
          exact HKA _ _ _ _ _ _ _ _ _ _ _ _ _ _ _ _ _ _ _ _ _ _ _ _ _ _ _ _ _ _ _ _ _ _ _ _ _ _ _ _ _ _ _ _ _ _ _ _ _ _ _ _ _ _ _ _ _ _ _ _ _ _ _ _ _ _ _ _ _ _ _ _ _ _ _ _ _ _ _ _ _ _ _ _ _ _ _ _ _ _ _ _ _ _ _ _ _ _ _ _ _ _ _ _ _ _ _ _ _ _ _ _ _ _ _ _ _ _ _ _ _ _ _ _ _ _ _ _ _ _ _ _ _ _ hHeld.1 hHeld.2.1 hHeld.2.2.1 hHeld.2.2.2.1 hHeld.2.2.2.2.1 hHeld.2.2.2.2.2.1 hHeld.2.2.2.2.2.2.1 hHeld.2.2.2.2.2.2.2.1 hHeld.2.2.2.2.2.2.2.2.1 hHeld.2.2.2.2.2.2.2.2.2.1 hHeld.2.2.2.2.2.2.2.2.2.2.1 hHeld.2.2.2.2.2.2.2.2.2.2.2.1 hHeld.2.2.2.2.2.2.2.2.2.2.2.2
      · obtain rfl := G8.out hcc
        have hne : (cc != 0) = true := by simpa using hcc
        clear G1 G2 G3 G4 G5 G6 G7 G8
        go_wp2_with fail
        refine (Twab.out _).mono ?_
        rintro e v23 ⟨rfl, bb⟩
        have e23 := bthen e4 bb
        replace a0 := cell_on a0 bb
        replace a1 := cell_on a1 bb
        replace a2 := cell_on a2 bb
        replace c0 := cell_on c0 bb
        replace c1 := cell_on c1 bb
        replace c2 := cell_on c2 bb
        replace d0 := cell_on d0 bb
        replace d1 := cell_on d1 bb
        replace d2 := cell_on d2 bb
        clear bb e4
        cases wab
        · go_wp2
          go_ret
          exact ⟨rfl, e23⟩
        · go_wp2_with fail
          refine (Twbc.out _).mono ?_
          rintro e v24 ⟨rfl, bb⟩
          have e24 := bthen e23 bb
          replace a0 := cell_on a0 bb
          replace a1 := cell_on a1 bb
          replace a2 := cell_on a2 bb
          replace c0 := cell_on c0 bb
          replace c1 := cell_on c1 bb
          replace c2 := cell_on c2 bb
          replace d0 := cell_on d0 bb
          replace d1 := cell_on d1 bb
          replace d2 := cell_on d2 bb
          clear bb e23
          go_wp2
          go_ret
          exact ⟨rfl, e24⟩
    · obtain rfl := G7.out hcb
      have hne : (cb != 0) = true := by simpa using hcb
      clear G1 G2 G3 G4 G5 G6 G7 G8
      go_wp2_with fail
      refine (Twab.out _).mono ?_
      rintro e v25 ⟨rfl, bb⟩
      have e25 := bthen e3 bb
      replace a0 := cell_on a0 bb
      replace a1 := cell_on a1 bb
      replace a2 := cell_on a2 bb
      replace c0 := cell_on c0 bb
      replace c1 := cell_on c1 bb
      replace c2 := cell_on c2 bb
      replace d0 := cell_on d0 bb
      replace d1 := cell_on d1 bb
      replace d2 := cell_on d2 bb
      clear bb e3
      go_wp2
      go_ret
      exact ⟨rfl, e25⟩
  · obtain rfl := G6.out hca
    have hne : (ca != 0) = true := by simpa using hca
    clear G1 G2 G3 G4 G5 G6 G7 G8
    go_wp2_with fail
    refine (Twab.out _).mono ?_
    rintro e v2 ⟨rfl, bb⟩
    have e2 := bthen e1 bb
    replace a0 := cell_on a0 bb
    replace a1 := cell_on a1 bb
    replace a2 := cell_on a2 bb
    replace c0 := cell_on c0 bb
    replace c1 := cell_on c1 bb
    replace c2 := cell_on c2 bb
    replace d0 := cell_on d0 bb
    replace d1 := cell_on d1 bb
    replace d2 := cell_on d2 bb
    clear bb e1
    go_wp2
    go_ret
    exact ⟨rfl, e2⟩

end Go.Proofs.Ytidajlnaehhkkab

/-
  The document's own Parse is the plain reading.
-/
import Derived.Test.YtnjbglnkhgholabDoorTJoin
namespace Go.Proofs.YtnjbglnkhgholabDoor
open Go.RowKit
set_option linter.unusedVariables false

theorem cut_yes {s : ByteArray} {c : UInt8} {z : Int} {a b : List UInt8} (hz : z = (c.toNat : Int)) (h : cutF c s.data.toList = some (a, b)) (hs : s.size ≤ 1073741824) : Hid (∀ w, Calls Tryd.prog 16 #[.string s, .int .u8 z] w fun r w' => r = .returned (.tuple #[.string ⟨a.toArray⟩, .string ⟨b.toArray⟩, .bool true]) ∧ Below w.heap.size w w') :=
  fun w => cutRef_at hz (cutV_some h) hs w
theorem cut_no {s : ByteArray} {c : UInt8} {z : Int} (hz : z = (c.toNat : Int)) (h : c ∉ s.data.toList) (hs : s.size ≤ 1073741824) : Hid (∀ w, Calls Tryd.prog 16 #[.string s, .int .u8 z] w fun r w' => r = .returned (.tuple #[.string ⟨#[]⟩, .string ⟨#[]⟩, .bool false]) ∧ Below w.heap.size w w') :=
  fun w => cutRef_at hz (cutV_none h) hs w

theorem empty_is {X : ByteArray} (h : X.data.toList = []) : X.toList.isEmpty = true ∧ (X.toList == []) = true := by
  rw [ByteArray.toList_eq, h]; exact ⟨rfl, rfl⟩
theorem empty_not {X : ByteArray} {x : UInt8} {t : List UInt8} (h : X.data.toList = x :: t) : X.toList.isEmpty = false ∧ (X.toList == []) = false := by
  rw [ByteArray.toList_eq, h]; exact ⟨rfl, rfl⟩
theorem index_zero {X : ByteArray} {x : UInt8} {t : List UInt8} (h : X.data.toList = x :: t) : ∀ w, (Instr.index 9 (.string X) (.int .i64 0)).run Tryd.prog w = .ok (.int .u8 (x.toNat : Int)) w := by
  intro w
  have hsz : 0 < X.size := by rw [← slen, h]; simp
  have h1 := idx_str' X 0 hsz 0 rfl w
  have hx : X[0] = x := by
    have : X.data.toList[0]? = some x := by rw [h]; rfl
    have h2 : X.data.toList[0]? = some X[0] := by
      rw [List.getElem?_eq_getElem (by rw [slen]; exact hsz)]
      rfl
    rw [h2] at this
    exact Option.some.inj this
  rw [hx] at h1
  exact h1
theorem tail_is {X : ByteArray} {x : UInt8} {t : List UInt8} (h : X.data.toList = x :: t) : X.extract 1 X.size = ⟨t.toArray⟩ := by rw [ext_drop, h]; rfl
theorem size_one {X : ByteArray} {x : UInt8} {t : List UInt8} (h : X.data.toList = x :: t) : (1 : Int) ≤ X.size ∧ X.size = t.length + 1 := by
  have := slen X
  rw [h] at this
  simp at this
  omega
theorem ne_of_byte {x : UInt8} {z : Int} (h : ¬ (x.toNat : Int) = z) : ((x.toNat : Int) != z) = true := by simp [h]
theorem eq_of_byte {x : UInt8} {z : Int} (h : (x.toNat : Int) = z) : ((x.toNat : Int) != z) = false := by simp [h]

theorem un_at {X : ByteArray} {x : UInt8} {t r : List UInt8} {e : Int} (h : X.data.toList = x :: t) (hu : unP t = (r, e)) (hs : X.size ≤ 1073741824) : Hid (∀ w, Calls Tryd.prog 17 #[.string (X.extract 1 X.size)] w fun r' w' => r' = .returned (.tuple #[.string ⟨r.toArray⟩, .int .i64 e]) ∧ Below w.heap.size w w') := fun w => by
  rw [tail_is h]
  exact unhexRef_is (by simpa using hu) (by rw [zlen]; have := (size_one h).2; omega) w
theorem nu_at {l : List UInt8} {x : Int} {f : Bool} (h : rnF l = (x, f)) (hs : l.length ≤ 1073741824) : Hid (∀ w, Calls Tryd.prog 18 #[.string ⟨l.toArray⟩] w fun r w' => r = .returned (.tuple #[.int .i64 x, .bool f]) ∧ Below w.heap.size w w') := fun w => rnRef_at (by simpa using h) (by rw [zlen]; exact hs) w

theorem parseRef_at {s : ByteArray} {R : En} {q : Int} (h : parseF s.data.toList = (R, q)) (hs : s.size ≤ 1073741824) (w : World) :
    Calls Tryd.prog 8 #[.string s] w fun r w' => r = .returned (.tuple #[.agg #[.string R.k, .int .i64 R.c, .int .i64 R.n, .string R.v, .bool R.d], .int .i64 q]) ∧ Below w.heap.size w w' := by
  have e32 : (32 : Int) = ((32 : UInt8).toNat : Int) := rfl
  have e46 : (46 : Int) = ((46 : UInt8).toNat : Int) := rfl
  have nil32 : (32 : UInt8) ∉ (⟨#[]⟩ : ByteArray).data.toList := by simp
  have nil46 : (46 : UInt8) ∉ (⟨#[]⟩ : ByteArray).data.toList := by simp
  have z0 : (⟨#[]⟩ : ByteArray).size ≤ 1073741824 := by decide
  cases h1 : cutF 32 s.data.toList with
  | none =>
    have hF : parseF s.data.toList = (noEn, 23) := by unfold parseF; rw [h1]
    rw [hF] at h
    cases h
    exact pr_cut s _ _ _ _ _ _ false false false w (cut_no e32 (cutF_none h1) hs) (cut_no e32 nil32 z0) (cut_no e46 nil46 z0) rfl
  | some p =>
    obtain ⟨key, rest⟩ := p
    have hl1 := (cutF_some h1).1
    have hn1 := congrArg List.length hl1
    rw [slen] at hn1
    simp only [List.length_append, List.length_cons] at hn1
    have zr : (⟨rest.toArray⟩ : ByteArray).size ≤ 1073741824 := by rw [zlen]; omega
    cases h2 : cutF 32 rest with
    | none =>
      have hF : parseF s.data.toList = (noEn, 23) := by unfold parseF; rw [h1]; simp only; rw [h2]
      rw [hF] at h
      cases h
      exact pr_cut s _ _ _ _ _ _ true false false w (cut_yes e32 h1 hs) (cut_no e32 (by simpa using cutF_none h2) zr) (cut_no e46 nil46 z0) rfl
    | some p2 =>
      obtain ⟨ver, val⟩ := p2
      have hl2 := (cutF_some h2).1
      have hn2 := congrArg List.length hl2
      simp only [List.length_append, List.length_cons] at hn2
      have zv : (⟨ver.toArray⟩ : ByteArray).size ≤ 1073741824 := by rw [zlen]; omega
      have hF := parseF_eq h1 h2
      have C1 := cut_yes e32 h1 hs
      have C2 := cut_yes (s := ⟨rest.toArray⟩) e32 (by simpa using h2) zr
      have bad : wordsF key ver val = none → (R, q) = (noEn, 23) := fun e => by rw [← h, hF, e]
      cases h3 : cutF 46 ver with
      | none =>
        have hw : wordsF key ver val = none := by
          unfold wordsF verF
          rw [h3]
          split <;> rfl
        have := bad hw
        cases this
        exact pr_cut s _ _ _ _ _ _ true true false w C1 C2 (cut_no e46 (by simpa using cutF_none h3) zv) rfl
      | some p3 =>
        obtain ⟨a, b⟩ := p3
        have hl3 := (cutF_some h3).1
        have hn3 := congrArg List.length hl3
        simp only [List.length_append, List.length_cons] at hn3
        have C3 := cut_yes (s := ⟨ver.toArray⟩) e46 (by simpa using h3) zv
        have kl : (⟨key.toArray⟩ : ByteArray).data.toList = key := by simp
        have xl : (⟨val.toArray⟩ : ByteArray).data.toList = val := by simp
        have zk : (⟨key.toArray⟩ : ByteArray).size ≤ 1073741824 := by rw [zlen]; omega
        have zx : (⟨val.toArray⟩ : ByteArray).size ≤ 1073741824 := by rw [zlen]; omega
        cases key with
        | nil =>
          have := bad (by unfold wordsF; rfl)
          cases this
          exact pr_key0 s _ _ _ _ _ _ w C1 C2 C3 (empty_is kl).1 (empty_is kl).2
        | cons x t =>
          by_cases hx : x = 107
          · subst hx
            have hx' : (((107 : UInt8).toNat : Int) != 107) = false := rfl
            cases val with
            | nil =>
              have hw : wordsF (107 :: t) ver [] = none := by
                unfold wordsF
                rw [show valF [] = none from rfl]
                split
                · rfl
                · split <;> rfl
              have := bad hw
              cases this
              exact pr_val0 s _ _ _ _ _ _ w C1 C2 C3 (empty_not kl).1 (empty_not kl).2 107 (index_zero kl) hx' (empty_is xl).1 (empty_is xl).2
            | cons y u =>
              rcases hN1 : rnF a with ⟨c, fx⟩
              rcases hN2 : rnF b with ⟨n, fy⟩
              have hver : verF ver = (match numF a with
                | none => none
                | some x => match numF b with
                  | none => none
                  | some y => some (x, y)) := by
                unfold verF; rw [h3]
                cases ha : numF a with
                | none => simp [ha]
                | some x => cases hb : numF b <;> simp [ha, hb]
              have vnone : (fx && fy) = false → verF ver = none := by
                intro hf
                rw [hver]
                rcases numF_rn a with ⟨x', e1, e2⟩ | ⟨e1, e2⟩
                · rw [hN1] at e2
                  simp only [Prod.mk.injEq] at e2
                  rcases numF_rn b with ⟨y', e3, e4⟩ | ⟨e3, e4⟩
                  · rw [hN2] at e4
                    simp only [Prod.mk.injEq] at e4
                    rw [e2.2, e4.2] at hf
                    simp at hf
                  · rw [e1, e3]
                · rw [e1]
              have vsome : fx = true → fy = true → verF ver = some (c, n) := by
                intro f1 f2
                rw [hver]
                rcases numF_rn a with ⟨x', e1, e2⟩ | ⟨e1, e2⟩
                · rw [hN1] at e2
                  simp only [Prod.mk.injEq] at e2
                  rcases numF_rn b with ⟨y', e3, e4⟩ | ⟨e3, e4⟩
                  · rw [hN2] at e4
                    simp only [Prod.mk.injEq] at e4
                    rw [e1, e3, e2.1, e4.1]
                  · rw [hN2] at e4; simp [f2] at e4
                · rw [hN1] at e2; simp [f1] at e2
              have NA := nu_at hN1 (show a.length ≤ 1073741824 by omega)
              have NB := nu_at hN2 (show b.length ≤ 1073741824 by omega)
              by_cases hd : y :: u = [120]
              · have hX : ((⟨(y :: u).toArray⟩ : ByteArray).toList == [120]) = true := by rw [beq120]; simpa using hd
                rcases unP_of t with ⟨r, e1, e2⟩ | ⟨e1, e2⟩
                · have U1 := un_at kl e2 zk
                  have hw : ∀ cn, verF ver = cn → wordsF (107 :: t) ver (y :: u) = (match cn with
                      | none => none
                      | some (c, n) => some ⟨⟨r.toArray⟩, c, n, ⟨#[]⟩, true⟩) := by
                    intro cn hcn
                    unfold wordsF
                    rw [show keyF 107 (107 :: t) = some r from by simp [keyF, e1], hcn]
                    simp only
                    split
                    · rfl
                    · rw [show valF (y :: u) = some ([], true) from by unfold valF; rw [if_pos hd]]
                  cases hf : (fx && fy) with
                  | false =>
                    have := bad (by rw [hw _ (vnone hf)])
                    cases this
                    exact pr_numD s _ _ _ _ _ _ _ 0 c n fx fy w C1 C2 C3 (empty_not kl).1 (empty_not kl).2 107 (index_zero kl) hx' (empty_not xl).1 (empty_not xl).2 hX (size_one kl).1 U1 rfl NA NB hf
                  | true =>
                    simp only [Bool.and_eq_true] at hf
                    obtain ⟨rfl, rfl⟩ := hf
                    rw [hF, hw _ (vsome rfl rfl)] at h
                    simp only at h
                    split at h
                    · rename_i hc
                      cases h
                      exact pr_okD s _ _ _ _ _ _ _ 0 c n w C1 C2 C3 (empty_not kl).1 (empty_not kl).2 107 (index_zero kl) hx' (empty_not xl).1 (empty_not xl).2 hX (size_one kl).1 U1 rfl NA NB hc
                    · rename_i hc
                      cases h
                      exact pr_chkD s _ _ _ _ _ _ _ 0 c n _ w C1 C2 C3 (empty_not kl).1 (empty_not kl).2 107 (index_zero kl) hx' (empty_not xl).1 (empty_not xl).2 hX (size_one kl).1 U1 rfl NA NB rfl hc
                · have := bad (by unfold wordsF; rw [show keyF 107 (107 :: t) = none from by simp [keyF, e1]])
                  cases this
                  exact pr_hexkD s _ _ _ _ _ _ _ 23 w C1 C2 C3 (empty_not kl).1 (empty_not kl).2 107 (index_zero kl) hx' (empty_not xl).1 (empty_not xl).2 hX (size_one kl).1 (un_at kl e2 zk) rfl
              · have hX : ((⟨(y :: u).toArray⟩ : ByteArray).toList == [120]) = false := by rw [beq120]; simpa using hd
                have hvF : valF (y :: u) = (match keyF 61 (y :: u) with
                  | none => none
                  | some v => some (v, false)) := by
                  unfold valF; rw [if_neg hd]
                  cases keyF 61 (y :: u) <;> rfl
                by_cases hy : y = 61
                · subst hy
                  have hy' : (((61 : UInt8).toNat : Int) != 61) = false := rfl
                  rcases unP_of t with ⟨r, e1, e2⟩ | ⟨e1, e2⟩
                  · have U1 := un_at kl e2 zk
                    rcases unP_of u with ⟨r2, e3, e4⟩ | ⟨e3, e4⟩
                    · have U2 := un_at xl e4 zx
                      have hw : ∀ cn, verF ver = cn → wordsF (107 :: t) ver (61 :: u) = (match cn with
                          | none => none
                          | some (c, n) => some ⟨⟨r.toArray⟩, c, n, ⟨r2.toArray⟩, false⟩) := by
                        intro cn hcn
                        unfold wordsF
                        rw [show keyF 107 (107 :: t) = some r from by simp [keyF, e1], hcn]
                        simp only
                        split
                        · rfl
                        · rw [hvF, show keyF 61 (61 :: u) = some r2 from by simp [keyF, e3]]
                      cases hf : (fx && fy) with
                      | false =>
                        have := bad (by rw [hw _ (vnone hf)])
                        cases this
                        exact pr_numL s _ _ _ _ _ _ _ 0 _ 0 c n fx fy w C1 C2 C3 (empty_not kl).1 (empty_not kl).2 107 (index_zero kl) hx' (empty_not xl).1 (empty_not xl).2 hX 61 (index_zero xl) hy' (size_one xl).1 (size_one kl).1 U1 rfl U2 rfl NA NB hf
                      | true =>
                        simp only [Bool.and_eq_true] at hf
                        obtain ⟨rfl, rfl⟩ := hf
                        rw [hF, hw _ (vsome rfl rfl)] at h
                        simp only at h
                        split at h
                        · rename_i hc
                          cases h
                          exact pr_okL s _ _ _ _ _ _ _ 0 _ 0 c n w C1 C2 C3 (empty_not kl).1 (empty_not kl).2 107 (index_zero kl) hx' (empty_not xl).1 (empty_not xl).2 hX 61 (index_zero xl) hy' (size_one xl).1 (size_one kl).1 U1 rfl U2 rfl NA NB hc
                        · rename_i hc
                          cases h
                          exact pr_chkL s _ _ _ _ _ _ _ 0 _ 0 c n _ w C1 C2 C3 (empty_not kl).1 (empty_not kl).2 107 (index_zero kl) hx' (empty_not xl).1 (empty_not xl).2 hX 61 (index_zero xl) hy' (size_one xl).1 (size_one kl).1 U1 rfl U2 rfl NA NB rfl hc
                    · have hw : wordsF (107 :: t) ver (61 :: u) = none := by
                        unfold wordsF
                        rw [hvF, show keyF 61 (61 :: u) = none from by simp [keyF, e3]]
                        split
                        · rfl
                        · split <;> rfl
                      have := bad hw
                      cases this
                      exact pr_hexvL s _ _ _ _ _ _ _ 0 _ 23 w C1 C2 C3 (empty_not kl).1 (empty_not kl).2 107 (index_zero kl) hx' (empty_not xl).1 (empty_not xl).2 hX 61 (index_zero xl) hy' (size_one xl).1 (size_one kl).1 U1 rfl (un_at xl e4 zx) rfl
                  · have := bad (by unfold wordsF; rw [show keyF 107 (107 :: t) = none from by simp [keyF, e1]])
                    cases this
                    exact pr_hexkL s _ _ _ _ _ _ _ 23 w C1 C2 C3 (empty_not kl).1 (empty_not kl).2 107 (index_zero kl) hx' (empty_not xl).1 (empty_not xl).2 hX 61 (index_zero xl) hy' (size_one xl).1 (size_one kl).1 (un_at kl e2 zk) rfl
                · have hw : wordsF (107 :: t) ver (y :: u) = none := by
                    unfold wordsF
                    rw [hvF, show keyF 61 (y :: u) = none from by simp [keyF, hy]]
                    split
                    · rfl
                    · split <;> rfl
                  have := bad hw
                  cases this
                  exact pr_vmark s _ _ _ _ _ _ w C1 C2 C3 (empty_not kl).1 (empty_not kl).2 107 (index_zero kl) hx' (empty_not xl).1 (empty_not xl).2 hX y (index_zero xl) (ne_of_byte (fun e => hy (UInt8.toNat_inj.1 (by have : (61 : UInt8).toNat = 61 := rfl; omega))))
          · have := bad (by unfold wordsF; rw [show keyF 107 (x :: t) = none from by simp [keyF, hx]])
            cases this
            exact pr_mark s _ _ _ _ _ _ w C1 C2 C3 (empty_not kl).1 (empty_not kl).2 x (index_zero kl) (ne_of_byte (fun e => hx (UInt8.toNat_inj.1 (by have : (107 : UInt8).toNat = 107 := rfl; omega))))

end Go.Proofs.YtnjbglnkhgholabDoor

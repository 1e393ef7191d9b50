/-
  Parse, the code's and the document's own: both are the plain reading.
-/
import Derived.Test.YtnjbglnkhgholabDoorTEnt
import Derived.Test.YtnjbglnkhgholabDoorTRef2
namespace Go.Proofs.YtnjbglnkhgholabDoor
open Go.RowKit
set_option linter.unusedVariables false

theorem index_cut {c : UInt8} : ∀ {l a b : List UInt8}, cutF c l = some (a, b) → Lib.index l [c] = (a.length : Int)
  | [], a, b, h => by simp [cutF] at h
  | x :: r, a, b, h => by
    unfold cutF at h
    split at h
    · rename_i hx
      simp only [Option.some.injEq, Prod.mk.injEq] at h
      obtain ⟨rfl, rfl⟩ := h
      subst hx
      simp [Lib.index]
    · rename_i hx
      split at h
      · rename_i a' b' hr
        simp only [Option.some.injEq, Prod.mk.injEq] at h
        obtain ⟨rfl, rfl⟩ := h
        have ih := index_cut hr
        have hne : (c == x) = false := by rw [beq_eq_false_iff_ne]; exact fun e => hx e.symm
        simp only [Lib.index]
        rw [if_neg (by simp [List.isPrefixOf, hne]), ih, if_neg (by simp)]
        simp
      · simp at h
theorem index_nocut {c : UInt8} : ∀ {l : List UInt8}, cutF c l = none → Lib.index l [c] = -1
  | [], _ => by simp [Lib.index]
  | x :: r, h => by
    unfold cutF at h
    split at h
    · simp at h
    · rename_i hx
      split at h
      · simp at h
      · rename_i hr
        have ih := index_nocut hr
        have hne : (c == x) = false := by rw [beq_eq_false_iff_ne]; exact fun e => hx e.symm
        simp only [Lib.index]
        rw [if_neg (by simp [List.isPrefixOf, hne]), ih]
        rfl

theorem libcut_some {c : UInt8} {l a b : List UInt8} (h : cutF c l = some (a, b)) : Lib.cut l [c] = (a, b, true) := by
  have hi := index_cut h
  have hl := (cutF_some h).1
  unfold Lib.cut
  rw [hi, if_pos (by omega), show ((a.length : Int)).toNat = a.length from by omega]
  rw [hl]
  simp
theorem libcut_none {c : UInt8} {l : List UInt8} (h : cutF c l = none) : Lib.cut l [c] = (l, [], false) := by
  unfold Lib.cut
  rw [index_nocut h]
  rfl

theorem numF_rn (l : List UInt8) : (∃ x, numF l = some x ∧ rnF l = (x, true)) ∨ (numF l = none ∧ (rnF l).2 = false) := by
  unfold numF rnF
  rcases parseP_errs l 9223372036854775807 with h | h | h
  · rw [h]; simp
  · rw [h]; simp
  · rw [h]; simp

theorem unP_of (l : List UInt8) : (∃ r, Hx.unhex l = some r ∧ unP l = (r, 0)) ∨ (Hx.unhex l = none ∧ unP l = ([], 23)) := by
  unfold unP
  cases h : Hx.unhex l with
  | none => exact .inr ⟨rfl, by simp⟩
  | some r => exact .inl ⟨r, rfl, by simp⟩

theorem keyF_rb (m : UInt8) (l : List UInt8) : (∃ r, keyF m l = some r ∧ rbF m l = (r, true)) ∨ (keyF m l = none ∧ (rbF m l).2 = false) := by
  cases l with
  | nil => exact .inr ⟨rfl, rfl⟩
  | cons x t =>
    simp only [keyF, rbF]
    split
    · rcases unP_of t with ⟨r, h1, h2⟩ | ⟨h1, h2⟩
      · exact .inl ⟨r, h1, by rw [h2]; rfl⟩
      · exact .inr ⟨h1, by rw [h2]; rfl⟩
    · exact .inr ⟨rfl, rfl⟩

theorem verF_rv (l : List UInt8) : (∃ c n, verF l = some (c, n) ∧ rvF l = (c, n, true)) ∨ (verF l = none ∧ (rvF l).2.2 = false) := by
  unfold verF rvF
  cases h : cutF 46 l with
  | none => rw [libcut_none h]; exact .inr ⟨rfl, by simp⟩
  | some p =>
    obtain ⟨a, b⟩ := p
    rw [libcut_some h]
    simp only
    rcases numF_rn a with ⟨x, h1, h2⟩ | ⟨h1, h2⟩
    · rcases numF_rn b with ⟨y, h3, h4⟩ | ⟨h3, h4⟩
      · rw [h1, h3, h2, h4]; exact .inl ⟨x, y, rfl, by simp⟩
      · rw [h1, h3, h4]; exact .inr ⟨rfl, by simp⟩
    · rw [h1, h2]; exact .inr ⟨rfl, by simp⟩

theorem zlen (l : List UInt8) : (⟨l.toArray⟩ : ByteArray).size = l.length := by show l.toArray.size = l.length; simp
theorem slen (s : ByteArray) : s.data.toList.length = s.size := by show s.data.toList.length = s.data.size; simp
theorem seta (s : ByteArray) : (⟨s.data.toList.toArray⟩ : ByteArray) = s := by cases s; simp

/-- The pieces. -/
theorem split_none {s : ByteArray} (h : cutF 32 s.data.toList = none) (k : Nat) : Lib.splitB ⟨#[32]⟩ 0 k s = [s] := Lib.splitB_miss _ _ _ _ (index_nocut h)
theorem split_some {s : ByteArray} {a b : List UInt8} (h : cutF 32 s.data.toList = some (a, b)) (k : Nat) : Lib.splitB ⟨#[32]⟩ 0 (k + 1) s = ⟨a.toArray⟩ :: Lib.splitB ⟨#[32]⟩ 0 k ⟨b.toArray⟩ := by
  rw [Lib.splitB_hit _ _ _ _ a.length (index_cut h)]
  have hl := (cutF_some h).1
  have e1 : s.extract 0 (a.length + 0) = ⟨a.toArray⟩ := by rw [ext_take, hl]; simp
  have e2 : s.extract (a.length + (⟨#[32]⟩ : ByteArray).size) s.size = ⟨b.toArray⟩ := by
    rw [ext_drop, hl, show (⟨#[32]⟩ : ByteArray).size = 1 from rfl]
    simp
  rw [e1, e2]

theorem beq120 (X : ByteArray) : (X.toList == [120]) = decide (X.data.toList = [120]) := by
  rw [ByteArray.toList_eq]
  by_cases h : X.data.toList = [120]
  · rw [h]; rfl
  · rw [decide_eq_false h]
    exact beq_eq_false_iff_ne.2 h

/-- Parse. -/
theorem parse_at {s : ByteArray} {R : En} {q : Int} (h : parseF s.data.toList = (R, q)) (hs : s.size ≤ 1073741824) (w : World) (hE : Env w) :
    Calls Tryd.prog 7 #[.string s] w fun r w' => r = .returned (.tuple #[.agg #[.string R.k, .int .i64 R.c, .int .i64 R.n, .string R.v, .bool R.d], .int .i64 q]) ∧ Below w.heap.size w w' := by
  have few : ∀ P, Lib.splitB ⟨#[32]⟩ 0 (min 4 (s.size + 1) - 1) s = P → P.length ≠ 3 → parseF s.data.toList = (noEn, 23) → Calls Tryd.prog 7 #[.string s] w fun r w' => r = .returned (.tuple #[.agg #[.string R.k, .int .i64 R.c, .int .i64 R.n, .string R.v, .bool R.d], .int .i64 q]) ∧ Below w.heap.size w w' := by
    intro P hP hl hF
    rw [hF] at h
    cases h
    exact iparse_none s ⟨#[]⟩ 0 0 ⟨#[]⟩ false w hE (aside fun w hE => re_few s P _ w hE hP rfl hs hl)
  cases h1 : cutF 32 s.data.toList with
  | none => exact few [s] (split_none h1 _) (by simp) (by unfold parseF; rw [h1])
  | some p =>
    obtain ⟨key, rest⟩ := p
    have hl1 := (cutF_some h1).1
    have hn1 := congrArg List.length hl1
    rw [slen] at hn1
    simp only [List.length_append, List.length_cons] at hn1
    cases h2 : cutF 32 rest with
    | none =>
      obtain ⟨k, hk⟩ : ∃ k, min 4 (s.size + 1) - 1 = k + 1 := ⟨min 4 (s.size + 1) - 2, by omega⟩
      refine few [⟨key.toArray⟩, ⟨rest.toArray⟩] ?_ (by simp) (by unfold parseF; rw [h1]; simp only; rw [h2])
      rw [hk, split_some h1, split_none (by simpa using h2)]
    | some p2 =>
      obtain ⟨ver, val⟩ := p2
      have hl2 := (cutF_some h2).1
      have hn2 := congrArg List.length hl2
      simp only [List.length_append, List.length_cons] at hn2
      have hF := parseF_eq h1 h2
      cases h3 : cutF 32 val with
      | some p3 =>
        obtain ⟨v1, v2⟩ := p3
        have hl3 := (cutF_some h3).1
        have hn3 := congrArg List.length hl3
        simp only [List.length_append, List.length_cons] at hn3
        have h32 : (32 : UInt8) ∈ val := by rw [hl3]; simp
        have hval : valF val = none := by
          unfold valF
          rw [if_neg (fun e => by rw [e] at h32; simp at h32)]
          cases hkv : keyF 61 val with
          | none => rfl
          | some r =>
            rw [keyF_inv hkv] at h32
            simp at h32
            exact absurd h32 (hex_no32 r)
        have hw : wordsF key ver val = none := by
          unfold wordsF
          rw [hval]
          split
          · rfl
          · split <;> rfl
        have hk : min 4 (s.size + 1) - 1 = 2 + 1 := by omega
        refine few [⟨key.toArray⟩, ⟨ver.toArray⟩, ⟨v1.toArray⟩, ⟨v2.toArray⟩] ?_ (by simp) (by rw [hF, hw])
        rw [hk, split_some h1, split_some (by simpa using h2), split_some (by simpa using h3)]
        rfl
      | none =>
        have hP : Lib.splitB ⟨#[32]⟩ 0 (min 4 (s.size + 1) - 1) s = [⟨key.toArray⟩, ⟨ver.toArray⟩, ⟨val.toArray⟩] := by
          obtain ⟨k, hk⟩ : ∃ k, min 4 (s.size + 1) - 1 = k + 1 + 1 := ⟨min 4 (s.size + 1) - 3, by omega⟩
          rw [hk, split_some h1, split_some (by simpa using h2), split_none (by simpa using h3)]
        have z1 : (⟨key.toArray⟩ : ByteArray).size ≤ 1073741824 := by rw [zlen]; omega
        have z2 : (⟨ver.toArray⟩ : ByteArray).size ≤ 1073741824 := by rw [zlen]; omega
        have z3 : (⟨val.toArray⟩ : ByteArray).size ≤ 1073741824 := by rw [zlen]; omega
        have hN3 : 3 ≤ min 4 (s.size + 1) := by omega
        rcases hkb : rbF 107 key with ⟨kl, kf⟩
        rcases hvb : rvF ver with ⟨c, n, vf⟩
        -- what is found, and what it says
        have key1 : ∀ (v : ByteArray) (d fnd : Bool), (∀ w, Env w → Calls Tryd.prog 15 #[.string s] w fun r w' => r = .returned (.tuple #[.agg #[.string ⟨kl.toArray⟩, .int .i64 c, .int .i64 n, .string v, .bool d], .bool fnd]) ∧ Below w.heap.size w w') →
            (fnd = true → wordsF key ver val = some ⟨⟨kl.toArray⟩, c, n, v, d⟩) → (fnd = false → wordsF key ver val = none) → Calls Tryd.prog 7 #[.string s] w fun r w' => r = .returned (.tuple #[.agg #[.string R.k, .int .i64 R.c, .int .i64 R.n, .string R.v, .bool R.d], .int .i64 q]) ∧ Below w.heap.size w w' := by
          intro v d fnd C hy hno
          cases fnd
          · rw [hF, hno rfl] at h
            cases h
            exact iparse_none s _ _ _ _ _ w hE (aside C)
          · rw [hF, hy rfl] at h
            simp only at h
            split at h
            · rename_i hc
              cases h
              exact iparse_ok s _ _ _ _ _ hc w hE (aside C)
            · rename_i hc
              cases h
              exact iparse_bad s _ _ _ _ _ _ rfl hc w hE (aside C)
        by_cases hx : val = [120]
        · refine key1 ⟨#[]⟩ true (kf && vf) (fun w hE => re_dead s ⟨key.toArray⟩ ⟨ver.toArray⟩ ⟨val.toArray⟩ ⟨kl.toArray⟩ ⟨#[]⟩ _ c n kf vf false w hE hP rfl hs hN3 (by simpa using hkb) (by simpa using hvb) z1 z2 (by rw [beq120]; simpa using hx)) ?_ ?_
          · intro hf
            simp only [Bool.and_eq_true] at hf
            obtain ⟨rfl, rfl⟩ := hf
            unfold wordsF
            rcases keyF_rb 107 key with ⟨r, e1, e2⟩ | ⟨e1, e2⟩
            · rw [hkb] at e2
              simp only [Prod.mk.injEq, and_true] at e2
              subst e2
              rcases verF_rv ver with ⟨c', n', e3, e4⟩ | ⟨e3, e4⟩
              · rw [hvb] at e4
                simp only [Prod.mk.injEq, and_true] at e4
                obtain ⟨rfl, rfl⟩ := e4
                rw [e1, e3]
                simp [valF, hx]
              · rw [hvb] at e4; simp at e4
            · rw [hkb] at e2; simp at e2
          · intro hf
            unfold wordsF
            rcases keyF_rb 107 key with ⟨r, e1, e2⟩ | ⟨e1, e2⟩
            · rw [hkb] at e2
              simp only [Prod.mk.injEq] at e2
              rcases verF_rv ver with ⟨c', n', e3, e4⟩ | ⟨e3, e4⟩
              · rw [hvb] at e4
                simp only [Prod.mk.injEq] at e4
                rw [e2.2, e4.2.2] at hf
                simp at hf
              · rw [e1, e3]
            · rw [e1]
        · rcases hwb : rbF 61 val with ⟨vl, wf⟩
          refine key1 ⟨vl.toArray⟩ false (kf && vf && wf) (fun w hE => re_live s ⟨key.toArray⟩ ⟨ver.toArray⟩ ⟨val.toArray⟩ ⟨kl.toArray⟩ ⟨vl.toArray⟩ _ c n kf vf wf w hE hP rfl hs hN3 (by simpa using hkb) (by simpa using hvb) z1 z2 (by rw [beq120]; simpa using hx) (by simpa using hwb) z3) ?_ ?_
          · intro hf
            simp only [Bool.and_eq_true] at hf
            obtain ⟨⟨rfl, rfl⟩, rfl⟩ := hf
            unfold wordsF
            rcases keyF_rb 107 key with ⟨r, e1, e2⟩ | ⟨e1, e2⟩
            · rw [hkb] at e2
              simp only [Prod.mk.injEq, and_true] at e2
              subst e2
              rcases verF_rv ver with ⟨c', n', e3, e4⟩ | ⟨e3, e4⟩
              · rw [hvb] at e4
                simp only [Prod.mk.injEq, and_true] at e4
                obtain ⟨rfl, rfl⟩ := e4
                rcases keyF_rb 61 val with ⟨r2, e5, e6⟩ | ⟨e5, e6⟩
                · rw [hwb] at e6
                  simp only [Prod.mk.injEq, and_true] at e6
                  subst e6
                  rw [e1, e3]
                  simp [valF, hx, e5]
                · rw [hwb] at e6; simp at e6
              · rw [hvb] at e4; simp at e4
            · rw [hkb] at e2; simp at e2
          · intro hf
            unfold wordsF
            rcases keyF_rb 107 key with ⟨r, e1, e2⟩ | ⟨e1, e2⟩
            · rw [hkb] at e2
              simp only [Prod.mk.injEq] at e2
              rcases verF_rv ver with ⟨c', n', e3, e4⟩ | ⟨e3, e4⟩
              · rw [hvb] at e4
                simp only [Prod.mk.injEq] at e4
                rcases keyF_rb 61 val with ⟨r2, e5, e6⟩ | ⟨e5, e6⟩
                · rw [hwb] at e6
                  simp only [Prod.mk.injEq] at e6
                  rw [e2.2, e4.2.2, e6.2] at hf
                  simp at hf
                · rw [e1, e3]
                  simp [valF, hx, e5]
              · rw [e1, e3]
            · rw [e1]

end Go.Proofs.YtnjbglnkhgholabDoor

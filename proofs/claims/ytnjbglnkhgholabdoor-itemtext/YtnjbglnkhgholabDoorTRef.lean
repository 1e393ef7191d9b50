/-
  The document's own reading of an entry's text: cut, number, Parse.
-/
import Derived.Test.YtnjbglnkhgholabDoorTRead
namespace Go.Proofs.YtnjbglnkhgholabDoor
open Go.RowKit
set_option linter.unusedVariables false

def cutV (c : UInt8) (l : List UInt8) : Value := match cutF c l with
  | some (a, b) => .tuple #[.string ⟨a.toArray⟩, .string ⟨b.toArray⟩, .bool true]
  | none => .tuple #[.string ⟨#[]⟩, .string ⟨#[]⟩, .bool false]
theorem cutV_some {c : UInt8} {l a b : List UInt8} (h : cutF c l = some (a, b)) : cutV c l = .tuple #[.string ⟨a.toArray⟩, .string ⟨b.toArray⟩, .bool true] := by simp [cutV, h]
theorem cutV_none {c : UInt8} {l : List UInt8} (h : c ∉ l) : cutV c l = .tuple #[.string ⟨#[]⟩, .string ⟨#[]⟩, .bool false] := by
  cases hc : cutF c l with
  | none => simp [cutV, hc]
  | some p => exact absurd (by rw [(cutF_some hc).1]; simp) h

theorem ext_take (s : ByteArray) (k : Nat) : s.extract 0 k = ⟨(s.data.toList.take k).toArray⟩ := by
  apply ByteArray.ext
  rw [ByteArray.data_extract]
  apply Array.ext'
  rw [Array.toList_extract, List.extract_eq_take_drop]
  simp
theorem ext_drop (s : ByteArray) (k : Nat) : s.extract k s.size = ⟨(s.data.toList.drop k).toArray⟩ := by
  apply ByteArray.ext
  rw [ByteArray.data_extract]
  apply Array.ext'
  show (s.data.extract k s.data.size).toList = _
  rw [Array.toList_extract, List.extract_eq_take_drop, List.take_of_length_le (by simp)]

def CutRel (s : ByteArray) (c : UInt8) (w : World) (i : Value) (wr : World) : Prop :=
  ∃ k : Nat, i = .int .i64 (k : Int) ∧ k ≤ s.size ∧ c ∉ s.data.toList.take k ∧ wr = w

set_option maxRecDepth 100000 in
set_option maxHeartbeats 1600000 in
theorem cutRef_any (s : ByteArray) (c : UInt8) (w : World) (hs : s.size ≤ 1073741824) :
    Calls Tryd.prog 16 #[.string s, .int .u8 (c.toNat : Int)] w fun r w' => r = .returned (cutV c s.data.toList) ∧ Below w.heap.size w w' := by
  have hs' : (s.size : Int) ≤ 1073741824 := by omega
  go_enter Tryd.func16, Tryd.ntmps16
  go_wp2
  go_loopw [7] (fun i wr => CutRel s c w i wr) (fun i _ => s.size - (intOf i).toNat)
  case atStart => exact ⟨0, rfl, Nat.zero_le _, by simp, rfl⟩
  case round =>
    obtain ⟨k, rfl, hk, hno, rfl⟩ := hrel
    have HNO := aside hno
    clear hno
    by_cases hlt : (k : Int) < (s.size : Int)
    · have hk' : k < s.size := by omega
      have hk0 : (0 : Int) ≤ (k : Int) := by omega
      have hix := fun w => idx_str' s k hk' (k : Int) rfl w
      obtain ⟨x, hx⟩ : ∃ x, s[k] = x := ⟨_, rfl⟩
      rw [hx] at hix
      have hdr : s.data.toList.drop k = x :: s.data.toList.drop (k + 1) := by rw [← hx]; exact drop_one s k hk'
      have hta : s.data.toList.take (k + 1) = s.data.toList.take k ++ [x] := by rw [← hx]; exact take_snoc s k hk'
      have HDR := aside hdr
      have HTA := aside hta
      clear hdr hta hx
      by_cases hxc : x = c
      · subst hxc
        go_wp2_with fail
        go_region
        all_goals
          go_wp2
          refine bodyPost_ret (results_tmp3 rfl _ _ _) rfl ?_
          refine ⟨?_, by first | exact (Below.refl _ _).drew | exact Below.refl _ _⟩
          have hcut : cutF x s.data.toList = some (s.data.toList.take k, s.data.toList.drop (k + 1)) := by
            conv => lhs; rw [← List.take_append_drop k s.data.toList, HDR.out]
            exact cutF_of _ HNO.out
          rw [cutV_some hcut, ← ext_take, ← ext_drop]
          rfl
      · have hne : ((x.toNat : Int) == (c.toNat : Int)) = false := by
          rw [beq_eq_false_iff_ne]
          intro e
          exact hxc (UInt8.toNat_inj.1 (by omega))
        go_wp2
        go_roundw
        case rel =>
          refine ⟨k + 1, by go_num, by omega, ?_, rfl⟩
          rw [HTA.out]
          simp [HNO.out]
          exact fun e => hxc e.symm
        case measure => simp [intOf]; omega
    · have hk' : k = s.size := by omega
      go_wp2
      refine bodyPost_ret (results_tmp3 rfl _ _ _) rfl ?_
      refine ⟨?_, Below.refl _ _⟩
      rw [cutV_none (by have := HNO.out; rw [hk', take_all] at this; exact this)]
      rfl

theorem cutRef_at {s A B : ByteArray} {c : UInt8} {z : Int} {f : Bool} (hz : z = (c.toNat : Int)) (h : cutV c s.data.toList = .tuple #[.string A, .string B, .bool f]) (hs : s.size ≤ 1073741824) (w : World) :
    Calls Tryd.prog 16 #[.string s, .int .u8 z] w fun r w' => r = .returned (.tuple #[.string A, .string B, .bool f]) ∧ Below w.heap.size w w' := by
  rw [hz, ← h]; exact cutRef_any s c w hs

set_option maxHeartbeats 800000 in
theorem rnRef_of (s : ByteArray) (x e : Int) (w : World) (C : Hid (Calls Tryd.prog 26 #[.string s, .int .i64 9223372036854775807] w fun r w' => r = .returned (.tuple #[.int .i64 x, .int .i64 e]) ∧ Below w.heap.size w w')) (he : e = 12 ∨ e = 23 ∨ e = 0) :
    Calls Tryd.prog 18 #[.string s] w fun r w' => r = .returned (.tuple #[.int .i64 (if e = 12 then 9223372036854775807 else x), .bool (!(e == 23))]) ∧ Below w.heap.size w w' := by
  rcases he with rfl | rfl | rfl
  all_goals
    go_enter Tryd.func18, Tryd.ntmps18
    go_wp2_with fail
    refine (C.out).mono ?_
    rintro r w1 ⟨rfl, b1⟩
    go_wp2
    go_ret2
    exact ⟨rfl, b1⟩

theorem rnRef_at {s : ByteArray} {x : Int} {f : Bool} (h : rnF s.data.toList = (x, f)) (hs : s.size ≤ 1073741824) (w : World) :
    Calls Tryd.prog 18 #[.string s] w fun r w' => r = .returned (.tuple #[.int .i64 x, .bool f]) ∧ Below w.heap.size w w' := by
  have c := rnRef_of s _ _ w (aside (refParse_any s 9223372036854775807 (by omega) w)) (parseP_errs s.data.toList 9223372036854775807)
  unfold rnF at h
  split at h
  · rename_i he
    simp only [Prod.mk.injEq] at h
    rw [if_pos he, he, h.1] at c
    rw [← h.2]
    exact c
  · rename_i he
    simp only [Prod.mk.injEq] at h
    rw [if_neg he, h.1, h.2] at c
    exact c

theorem unhexRef_is {s D : ByteArray} {e : Int} (h : unP s.data.toList = (D.data.toList, e)) (hs : s.size ≤ 4294967296) (w : World) :
    Calls Tryd.prog 17 #[.string s] w fun r w' => r = .returned (.tuple #[.string D, .int .i64 e]) ∧ Below w.heap.size w w' := by
  have h1 := unhexRef_any s w hs
  have eD : (⟨D.data.toList.toArray⟩ : ByteArray) = D := by cases D; simp
  unfold unP at h
  split at h
  · rename_i r hr
    simp only [Prod.mk.injEq] at h
    rw [unhexVal_some hr] at h1
    have e0 : (⟨r.toArray⟩ : ByteArray) = D := by rw [← eD, ← h.1]
    rw [e0, h.2] at h1
    exact h1
  · rename_i hr
    simp only [Prod.mk.injEq] at h
    rw [unhexVal_none hr] at h1
    have e0 : (⟨#[]⟩ : ByteArray) = D := by rw [← eD, ← h.1]
    rw [e0, h.2] at h1
    exact h1

theorem set5r {w W : World} {i : Nat} (b : Below w.heap.size w W) (hi : w.heap.size ≤ i) (u0 u1 u2 u3 u4 : Value) :
    Below w.heap.size w (((((W.setCell ⟨i, 0, none⟩ u0).setCell ⟨i, 1, none⟩ u1).setCell ⟨i, 2, none⟩ u2).setCell ⟨i, 3, none⟩ u3).setCell ⟨i, 4, none⟩ u4) :=
  ((((b.setCell (p := ⟨i, 0, none⟩) hi _).setCell (p := ⟨i, 1, none⟩) hi _).setCell (p := ⟨i, 2, none⟩) hi _).setCell (p := ⟨i, 3, none⟩) hi _).setCell (p := ⟨i, 4, none⟩) hi _

set_option maxRecDepth 100000 in
set_option maxHeartbeats 6400000 in
theorem pr_cut (s K R V X A B : ByteArray) (f1 f2 f3 : Bool) (w : World) (C1 : Hid (∀ w, Calls Tryd.prog 16 #[.string s, .int .u8 32] w fun r w' => r = .returned (.tuple #[.string K, .string R, .bool f1]) ∧ Below w.heap.size w w'))
    (C2 : Hid (∀ w, Calls Tryd.prog 16 #[.string R, .int .u8 32] w fun r w' => r = .returned (.tuple #[.string V, .string X, .bool f2]) ∧ Below w.heap.size w w'))
    (C3 : Hid (∀ w, Calls Tryd.prog 16 #[.string V, .int .u8 46] w fun r w' => r = .returned (.tuple #[.string A, .string B, .bool f3]) ∧ Below w.heap.size w w')) (hf : (f1 && f2 && f3) = false) :
    Calls Tryd.prog 8 #[.string s] w fun r w' => r = .returned (.tuple #[.agg #[.string ⟨#[]⟩, .int .i64 0, .int .i64 0, .string ⟨#[]⟩, .bool false], .int .i64 23]) ∧ Below w.heap.size w w' := by
  have Z := aside (heap_alloc_new w (.cells #[.string ⟨#[]⟩, .int .i64 0, .int .i64 0, .string ⟨#[]⟩, .bool false] 25))
  cases f1 <;> cases f2 <;> cases f3
  all_goals first
    | (exact absurd hf (by decide))
    | skip
  all_goals
    go_enter Tryd.func8, Tryd.ntmps8
    go_wp2_with fail
    refine (C1.out _).mono ?_
    rintro r w1 ⟨rfl, b1⟩
    have Z1 := aside (blk_on Z.out b1)
    have b01 := bthen (bnew w _) b1
    clear b1
    go_wp2_with fail
    refine (C2.out _).mono ?_
    rintro r w2 ⟨rfl, b2⟩
    have Z2 := aside (blk_on Z1.out b2)
    have b02 := bthen b01 b2
    clear b2 b01 Z1
    go_wp2_with fail
    refine (C3.out _).mono ?_
    rintro r w3 ⟨rfl, b3⟩
    have Z3 := aside (blk_on Z2.out b3)
    have b03 := bthen b02 b3
    obtain ⟨⟨t0, t1, t2, t3, t4⟩, g0, g1, g2, g3, g4⟩ := quint Z3.out
    clear b3 b02 Z2
    go_wp2
    refine bodyPost_ret (v := .tuple #[.agg #[.string ⟨#[]⟩, .int .i64 0, .int .i64 0, .string ⟨#[]⟩, .bool false], .int .i64 23]) (by simp [results, Tryd.results8, go_sem, t0, t1, t2, t3, t4]) rfl ⟨rfl, ?_⟩
    exact set5r b03 (Nat.le_refl _) _ _ _ _ _

set_option maxRecDepth 100000 in
set_option maxHeartbeats 6400000 in
theorem pr_key0 (s K R V X A B : ByteArray)  (w : World) (C1 : Hid (∀ w, Calls Tryd.prog 16 #[.string s, .int .u8 32] w fun r w' => r = .returned (.tuple #[.string K, .string R, .bool true]) ∧ Below w.heap.size w w'))
    (C2 : Hid (∀ w, Calls Tryd.prog 16 #[.string R, .int .u8 32] w fun r w' => r = .returned (.tuple #[.string V, .string X, .bool true]) ∧ Below w.heap.size w w'))
    (C3 : Hid (∀ w, Calls Tryd.prog 16 #[.string V, .int .u8 46] w fun r w' => r = .returned (.tuple #[.string A, .string B, .bool true]) ∧ Below w.heap.size w w')) (h1 : K.toList.isEmpty = true) (h2 : (K.toList == []) = true) :
    Calls Tryd.prog 8 #[.string s] w fun r w' => r = .returned (.tuple #[.agg #[.string ⟨#[]⟩, .int .i64 0, .int .i64 0, .string ⟨#[]⟩, .bool false], .int .i64 23]) ∧ Below w.heap.size w w' := by
  have Z := aside (heap_alloc_new w (.cells #[.string ⟨#[]⟩, .int .i64 0, .int .i64 0, .string ⟨#[]⟩, .bool false] 25))
  go_enter Tryd.func8, Tryd.ntmps8
  go_wp2_with fail
  refine (C1.out _).mono ?_
  rintro r w1 ⟨rfl, b1⟩
  have Z1 := aside (blk_on Z.out b1)
  have b01 := bthen (bnew w _) b1
  clear b1
  go_wp2_with fail
  refine (C2.out _).mono ?_
  rintro r w2 ⟨rfl, b2⟩
  have Z2 := aside (blk_on Z1.out b2)
  have b02 := bthen b01 b2
  clear b2 b01 Z1
  go_wp2_with fail
  refine (C3.out _).mono ?_
  rintro r w3 ⟨rfl, b3⟩
  have Z3 := aside (blk_on Z2.out b3)
  have b03 := bthen b02 b3
  obtain ⟨⟨t0, t1, t2, t3, t4⟩, g0, g1, g2, g3, g4⟩ := quint Z3.out
  clear b3 b02 Z2
  go_wp2
  refine bodyPost_ret (v := .tuple #[.agg #[.string ⟨#[]⟩, .int .i64 0, .int .i64 0, .string ⟨#[]⟩, .bool false], .int .i64 23]) (by simp [results, Tryd.results8, go_sem, t0, t1, t2, t3, t4]) rfl ⟨rfl, ?_⟩
  exact set5r b03 (Nat.le_refl _) _ _ _ _ _

set_option maxRecDepth 100000 in
set_option maxHeartbeats 6400000 in
theorem pr_mark (s K R V X A B : ByteArray)  (w : World) (C1 : Hid (∀ w, Calls Tryd.prog 16 #[.string s, .int .u8 32] w fun r w' => r = .returned (.tuple #[.string K, .string R, .bool true]) ∧ Below w.heap.size w w'))
    (C2 : Hid (∀ w, Calls Tryd.prog 16 #[.string R, .int .u8 32] w fun r w' => r = .returned (.tuple #[.string V, .string X, .bool true]) ∧ Below w.heap.size w w'))
    (C3 : Hid (∀ w, Calls Tryd.prog 16 #[.string V, .int .u8 46] w fun r w' => r = .returned (.tuple #[.string A, .string B, .bool true]) ∧ Below w.heap.size w w')) (hK1 : K.toList.isEmpty = false) (hK2 : (K.toList == []) = false) (x : UInt8) (ix : ∀ w, (Instr.index 9 (.string K) (.int .i64 0)).run Tryd.prog w = .ok (.int .u8 (x.toNat : Int)) w) (hx : ((x.toNat : Int) != 107) = true) :
    Calls Tryd.prog 8 #[.string s] w fun r w' => r = .returned (.tuple #[.agg #[.string ⟨#[]⟩, .int .i64 0, .int .i64 0, .string ⟨#[]⟩, .bool false], .int .i64 23]) ∧ Below w.heap.size w w' := by
  have Z := aside (heap_alloc_new w (.cells #[.string ⟨#[]⟩, .int .i64 0, .int .i64 0, .string ⟨#[]⟩, .bool false] 25))
  go_enter Tryd.func8, Tryd.ntmps8
  go_wp2_with fail
  refine (C1.out _).mono ?_
  rintro r w1 ⟨rfl, b1⟩
  have Z1 := aside (blk_on Z.out b1)
  have b01 := bthen (bnew w _) b1
  clear b1
  go_wp2_with fail
  refine (C2.out _).mono ?_
  rintro r w2 ⟨rfl, b2⟩
  have Z2 := aside (blk_on Z1.out b2)
  have b02 := bthen b01 b2
  clear b2 b01 Z1
  go_wp2_with fail
  refine (C3.out _).mono ?_
  rintro r w3 ⟨rfl, b3⟩
  have Z3 := aside (blk_on Z2.out b3)
  have b03 := bthen b02 b3
  obtain ⟨⟨t0, t1, t2, t3, t4⟩, g0, g1, g2, g3, g4⟩ := quint Z3.out
  clear b3 b02 Z2
  go_wp2
  refine bodyPost_ret (v := .tuple #[.agg #[.string ⟨#[]⟩, .int .i64 0, .int .i64 0, .string ⟨#[]⟩, .bool false], .int .i64 23]) (by simp [results, Tryd.results8, go_sem, t0, t1, t2, t3, t4]) rfl ⟨rfl, ?_⟩
  exact set5r b03 (Nat.le_refl _) _ _ _ _ _

set_option maxRecDepth 100000 in
set_option maxHeartbeats 6400000 in
theorem pr_val0 (s K R V X A B : ByteArray)  (w : World) (C1 : Hid (∀ w, Calls Tryd.prog 16 #[.string s, .int .u8 32] w fun r w' => r = .returned (.tuple #[.string K, .string R, .bool true]) ∧ Below w.heap.size w w'))
    (C2 : Hid (∀ w, Calls Tryd.prog 16 #[.string R, .int .u8 32] w fun r w' => r = .returned (.tuple #[.string V, .string X, .bool true]) ∧ Below w.heap.size w w'))
    (C3 : Hid (∀ w, Calls Tryd.prog 16 #[.string V, .int .u8 46] w fun r w' => r = .returned (.tuple #[.string A, .string B, .bool true]) ∧ Below w.heap.size w w')) (hK1 : K.toList.isEmpty = false) (hK2 : (K.toList == []) = false) (x : UInt8) (ix : ∀ w, (Instr.index 9 (.string K) (.int .i64 0)).run Tryd.prog w = .ok (.int .u8 (x.toNat : Int)) w) (hx : ((x.toNat : Int) != 107) = false) (h1 : X.toList.isEmpty = true) (h2 : (X.toList == []) = true) :
    Calls Tryd.prog 8 #[.string s] w fun r w' => r = .returned (.tuple #[.agg #[.string ⟨#[]⟩, .int .i64 0, .int .i64 0, .string ⟨#[]⟩, .bool false], .int .i64 23]) ∧ Below w.heap.size w w' := by
  have Z := aside (heap_alloc_new w (.cells #[.string ⟨#[]⟩, .int .i64 0, .int .i64 0, .string ⟨#[]⟩, .bool false] 25))
  go_enter Tryd.func8, Tryd.ntmps8
  go_wp2_with fail
  refine (C1.out _).mono ?_
  rintro r w1 ⟨rfl, b1⟩
  have Z1 := aside (blk_on Z.out b1)
  have b01 := bthen (bnew w _) b1
  clear b1
  go_wp2_with fail
  refine (C2.out _).mono ?_
  rintro r w2 ⟨rfl, b2⟩
  have Z2 := aside (blk_on Z1.out b2)
  have b02 := bthen b01 b2
  clear b2 b01 Z1
  go_wp2_with fail
  refine (C3.out _).mono ?_
  rintro r w3 ⟨rfl, b3⟩
  have Z3 := aside (blk_on Z2.out b3)
  have b03 := bthen b02 b3
  obtain ⟨⟨t0, t1, t2, t3, t4⟩, g0, g1, g2, g3, g4⟩ := quint Z3.out
  clear b3 b02 Z2
  go_wp2
  refine bodyPost_ret (v := .tuple #[.agg #[.string ⟨#[]⟩, .int .i64 0, .int .i64 0, .string ⟨#[]⟩, .bool false], .int .i64 23]) (by simp [results, Tryd.results8, go_sem, t0, t1, t2, t3, t4]) rfl ⟨rfl, ?_⟩
  exact set5r b03 (Nat.le_refl _) _ _ _ _ _

end Go.Proofs.YtnjbglnkhgholabDoor

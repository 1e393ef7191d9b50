/-
  The code's reading of an entry's text: CutPrefix, readBytes, readNumber, readVersion, readEntry, Parse.
-/
import Derived.Test.YtnjbglnkhgholabDoorTPlain
import Derived.Test.YtnjbglnkhgholabDoorHexWalks5
namespace Go.Proofs.YtnjbglnkhgholabDoor
open Go.RowKit
set_option linter.unusedVariables false

/-- What the library's variables hold. -/
structure Env (w : World) : Prop where
  err : ∃ ev, w.cell? ⟨7, 0, none⟩ = some ev ∧ (ev = .nilIface ∨ ∃ te pe, ev = .iface te pe)
  max : ∃ m : Int, w.cell? ⟨1, 0, none⟩ = some (.int .i64 m)
  tab : Lib.TabIs Tryd.prog w "internal/strconv.uint64pow10" .u64 Lib.pow10Tab

theorem Env.below {w w' : World} (h : Env w) (b : Below w.heap.size w w') : Env w' := by
  obtain ⟨ev, h1, h2⟩ := h.err
  obtain ⟨m, h3⟩ := h.max
  exact ⟨⟨ev, cell_in h1 b, h2⟩, ⟨m, cell_in h3 b⟩, tab_on h.tab b⟩

theorem bdrew (w : World) (n : Nat) : Below w.heap.size w (w.drewN n) := ⟨rfl, rfl, rfl, Nat.le_refl _, fun _ _ => rfl⟩

set_option maxHeartbeats 400000 in
theorem cpreLite_yes (s T : ByteArray) (m : UInt8) (w : World) (hp : Lib.hasPrefix s.data.toList [m] = true) (h1 : (1 : Int) ≤ s.size) (hT : s.extract 1 s.size = T) :
    Calls Tryd.prog 38 #[.string s, .string ⟨#[m]⟩] w fun e w' => e = .returned (.tuple #[.string T, .bool true]) ∧ w' = w := by
  have C : Hid (∀ w, Calls Tryd.prog 50 #[.string s, .string ⟨#[m]⟩] w fun e w' => e = .returned (.bool true) ∧ w' = w) := fun w => by
    have := Tryd.stringslite_HasPrefix s ⟨#[m]⟩ w
    rw [show (⟨#[m]⟩ : ByteArray).data.toList = [m] from rfl, hp] at this
    exact this
  have hsz : ((⟨#[m]⟩ : ByteArray).size : Int) = 1 := rfl
  clear hp
  go_enter Tryd.func38, Tryd.ntmps38
  go_wp2_with (go_at_call 50; refine (C.out _).mono ?_; rintro e w1 ⟨rfl, rfl⟩)
  go_ret2
  exact ⟨by rw [← hT]; rfl, rfl⟩

set_option maxHeartbeats 400000 in
theorem cpreLite_no (s : ByteArray) (m : UInt8) (w : World) (hp : Lib.hasPrefix s.data.toList [m] = false) :
    Calls Tryd.prog 38 #[.string s, .string ⟨#[m]⟩] w fun e w' => e = .returned (.tuple #[.string s, .bool false]) ∧ w' = w := by
  have C : Hid (∀ w, Calls Tryd.prog 50 #[.string s, .string ⟨#[m]⟩] w fun e w' => e = .returned (.bool false) ∧ w' = w) := fun w => by
    have := Tryd.stringslite_HasPrefix s ⟨#[m]⟩ w
    rw [show (⟨#[m]⟩ : ByteArray).data.toList = [m] from rfl, hp] at this
    exact this
  clear hp
  go_enter Tryd.func38, Tryd.ntmps38
  go_wp2_with (go_at_call 50; refine (C.out _).mono ?_; rintro e w1 ⟨rfl, rfl⟩)
  go_ret2
  exact ⟨rfl, rfl⟩

set_option maxHeartbeats 400000 in
theorem cpre_of (s : ByteArray) (m : UInt8) (T : ByteArray) (f : Bool) (w : World) (C : Hid (∀ w, Calls Tryd.prog 38 #[.string s, .string ⟨#[m]⟩] w fun e w' => e = .returned (.tuple #[.string T, .bool f]) ∧ w' = w)) :
    Calls Tryd.prog 30 #[.string s, .string ⟨#[m]⟩] w fun e w' => e = .returned (.tuple #[.string T, .bool f]) ∧ w' = w := by
  go_enter Tryd.func30, Tryd.ntmps30
  go_wp2_with (go_at_call 38; refine (C.out _).mono ?_; rintro e w1 ⟨rfl, rfl⟩)
  go_ret2
  exact ⟨rfl, rfl⟩

/-- Unhex, its two answers named. -/
def unP (l : List UInt8) : List UInt8 × Int := match Hx.unhex l with
  | some r => (r, 0)
  | none => ([], 23)
theorem unhex_is {s D : ByteArray} {e : Int} (h : unP s.data.toList = (D.data.toList, e)) (hs : s.size ≤ 4294967296) (w : World) :
    Calls Tryd.prog 31 #[.string s] w fun r w' => r = .returned (.tuple #[.string D, .int .i64 e]) ∧ Below w.heap.size w w' := by
  have h1 := unhex_any s w hs
  have eD : (⟨D.data.toList.toArray⟩ : ByteArray) = D := by cases D; simp
  unfold unP at h
  split at h
  · rename_i r hr
    simp only [Prod.mk.injEq] at h
    rw [unhexVal_some hr] at h1
    have e0 : (⟨r.toArray⟩ : ByteArray) = D := by rw [← eD, ← h.1]
    rw [e0, h.2] at h1
    exact h1
  · rename_i hr
    simp only [Prod.mk.injEq] at h
    rw [unhexVal_none hr] at h1
    have e0 : (⟨#[]⟩ : ByteArray) = D := by rw [← eD, ← h.1]
    rw [e0, h.2] at h1
    exact h1

/-- readBytes. -/
def rbF (m : UInt8) (l : List UInt8) : List UInt8 × Bool :=
  match l with
  | [] => ([], false)
  | x :: t => if x = m then ((unP t).1, (unP t).2 == 0) else ((unP (x :: t)).1, false)

set_option maxHeartbeats 800000 in
theorem rb_of (s : ByteArray) (m : UInt8) (Tx D : ByteArray) (f : Bool) (e : Int) (w : World) (C : Hid (∀ w, Calls Tryd.prog 30 #[.string s, .string ⟨#[m]⟩] w fun e w' => e = .returned (.tuple #[.string Tx, .bool f]) ∧ w' = w))
    (U : Hid (∀ w, Calls Tryd.prog 31 #[.string Tx] w fun r w' => r = .returned (.tuple #[.string D, .int .i64 e]) ∧ Below w.heap.size w w')) :
    Calls Tryd.prog 23 #[.string s, .string ⟨#[m]⟩] w fun r w' => r = .returned (.tuple #[.string D, .bool (f && (e == 0))]) ∧ Below w.heap.size w w' := by
  cases f <;> cases hE : (e == 0)
  all_goals
    go_enter Tryd.func23, Tryd.ntmps23
    go_wp2_with fail
    refine (C.out _).mono ?_
    rintro r w1 ⟨rfl, hw1⟩
    subst hw1
    go_wp2_with fail
    refine (U.out _).mono ?_
    rintro r w2 ⟨rfl, b2⟩
    go_wp2
    go_ret2
    exact ⟨by first | rfl | (rw [hE]; rfl), b2⟩

theorem rb_at {s D : ByteArray} {m : UInt8} {f : Bool} (h : rbF m s.data.toList = (D.data.toList, f)) (hs : s.size ≤ 1073741824) (w : World) :
    Calls Tryd.prog 23 #[.string s, .string ⟨#[m]⟩] w fun r w' => r = .returned (.tuple #[.string D, .bool f]) ∧ Below w.heap.size w w' := by
  rcases hl : s.data.toList with _ | ⟨x, t⟩
  · have hu : unP s.data.toList = (([] : List UInt8), 0) := by rw [hl]; rfl
    rw [hl] at h
    simp only [rbF, Prod.mk.injEq] at h
    obtain ⟨h1, rfl⟩ := h
    have := rb_of s m s D false 0 w (aside fun w => cpre_of s m s false w (aside fun w => cpreLite_no s m w (by rw [hl]; rfl))) (aside fun w => unhex_is (by rw [hu, ← h1]) (by omega) w)
    exact this
  · rw [hl] at h
    simp only [rbF] at h
    have hsz : s.size = t.length + 1 := by
      have : s.data.toList.length = s.size := by show s.data.toList.length = s.data.size; simp
      rw [hl] at this
      simpa using this.symm
    split at h
    · rename_i hx
      simp only [Prod.mk.injEq] at h
      have hT : (s.extract 1 s.size).data.toList = t := by
        rw [ByteArray.data_extract]
        show (s.data.extract 1 s.data.size).toList = _
        rw [Array.toList_extract, List.extract_eq_take_drop, hl]
        simp [hsz]
      have hTs : (s.extract 1 s.size).size ≤ 4294967296 := by
        have : (s.extract 1 s.size).data.toList.length = (s.extract 1 s.size).size := by show (s.extract 1 s.size).data.toList.length = (s.extract 1 s.size).data.size; simp
        rw [hT] at this
        omega
      have := rb_of s m (s.extract 1 s.size) D true (unP t).2 w (aside fun w => cpre_of s m _ true w (aside fun w => cpreLite_yes s _ m w (by rw [hl, hx]; simp [Lib.hasPrefix]) (by omega) rfl)) (aside fun w => unhex_is (by rw [hT, ← h.1]) hTs w)
      rw [Bool.true_and, h.2] at this
      exact this
    · rename_i hx
      simp only [Prod.mk.injEq] at h
      obtain ⟨h1, rfl⟩ := h
      have := rb_of s m s D false (unP (x :: t)).2 w (aside fun w => cpre_of s m s false w (aside fun w => cpreLite_no s m w (by rw [hl]; cases hmx : (m == x) with | true => exact absurd (beq_iff_eq.1 hmx).symm hx | false => (show (m == x && ([] : List UInt8).isPrefixOf t) = false; rw [hmx]; rfl)))) (aside fun w => unhex_is (by rw [hl, ← h1]) (by omega) w)
      exact this

/-- readNumber. -/
def rnF (l : List UInt8) : Int × Bool := if (parseP l 9223372036854775807).2 = 12 then (9223372036854775807, true) else ((parseP l 9223372036854775807).1, !((parseP l 9223372036854775807).2 == 23))

set_option maxHeartbeats 800000 in
theorem rn_of (s : ByteArray) (x e : Int) (w : World) (C : Hid (Calls Tryd.prog 41 #[.string s, .int .i64 9223372036854775807] w fun r w' => r = .returned (.tuple #[.int .i64 x, .int .i64 e]) ∧ Below w.heap.size w w')) (he : e = 12 ∨ e = 23 ∨ e = 0) :
    Calls Tryd.prog 33 #[.string s] w fun r w' => r = .returned (.tuple #[.int .i64 (if e = 12 then 9223372036854775807 else x), .bool (!(e == 23))]) ∧ Below w.heap.size w w' := by
  rcases he with rfl | rfl | rfl
  all_goals
    go_enter Tryd.func33, Tryd.ntmps33
    go_wp2_with fail
    refine (C.out).mono ?_
    rintro r w1 ⟨rfl, b1⟩
    go_wp2
    go_ret2
    exact ⟨rfl, b1⟩

theorem parseP_errs (l : List UInt8) (m : Int) : (parseP l m).2 = 12 ∨ (parseP l m).2 = 23 ∨ (parseP l m).2 = 0 := by
  unfold parseP
  split
  · split
    · exact .inl rfl
    · exact .inr (.inr rfl)
  · exact .inr (.inl rfl)

theorem rn_at {s : ByteArray} {x : Int} {f : Bool} (h : rnF s.data.toList = (x, f)) (hs : s.size ≤ 1073741824) (w : World) (hE : Env w) :
    Calls Tryd.prog 33 #[.string s] w fun r w' => r = .returned (.tuple #[.int .i64 x, .bool f]) ∧ Below w.heap.size w w' := by
  obtain ⟨ev, h1, h2⟩ := hE.err
  have c := rn_of s _ _ w (aside (parse_any s 9223372036854775807 (by omega) ev w h1 h2)) (parseP_errs s.data.toList 9223372036854775807)
  unfold rnF at h
  split at h
  · rename_i he
    simp only [Prod.mk.injEq] at h
    rw [if_pos he, he, h.1] at c
    rw [← h.2]
    exact c
  · rename_i he
    simp only [Prod.mk.injEq] at h
    rw [if_neg he, h.1, h.2] at c
    exact c

theorem cut_is {s A B : ByteArray} {f : Bool} (h : Lib.cut s.data.toList [46] = (A.data.toList, B.data.toList, f)) (hs : s.size ≤ 1073741824) (w : World) (hE : Env w) :
    Calls Tryd.prog 32 #[.string s, .string ⟨#[46]⟩] w fun e w' => e = .returned (.tuple #[.string A, .string B, .bool f]) ∧ Below w.heap.size w w' := by
  obtain ⟨m, hm⟩ := hE.max
  refine (Tryd.strings_Cut s ⟨#[46]⟩ m w (by omega) hm).mono ?_
  rintro e w' ⟨rfl, n, rfl⟩
  rw [show (⟨#[46]⟩ : ByteArray).data.toList = [46] from rfl, h]
  exact ⟨by cases A; cases B; simp, bdrew w n⟩

/-- readVersion. -/
def rvF (l : List UInt8) : Int × Int × Bool :=
  match Lib.cut l [46] with
  | (a, b, f) => ((rnF a).1, (rnF b).1, f && (rnF a).2 && (rnF b).2)

set_option maxRecDepth 100000 in
set_option maxHeartbeats 3200000 in
theorem rv_of (s A B : ByteArray) (f : Bool) (x y : Int) (fx fy : Bool) (w : World) (hE : Env w) (hc : Lib.cut s.data.toList [46] = (A.data.toList, B.data.toList, f)) (hx : rnF A.data.toList = (x, fx)) (hy : rnF B.data.toList = (y, fy)) (hs : s.size ≤ 1073741824) (hA : A.size ≤ 1073741824) (hB : B.size ≤ 1073741824) :
    Calls Tryd.prog 24 #[.string s] w fun r w' => r = .returned (.tuple #[.agg #[.int .i64 x, .int .i64 y], .bool (f && fx && fy)]) ∧ Below w.heap.size w w' := by
  have C1 := aside (fun w hE => cut_is hc hs w hE)
  have C2 := aside (fun w hE => rn_at hx hA w hE)
  have C3 := aside (fun w hE => rn_at hy hB w hE)
  have HE := aside hE
  clear hE hc hx hy hs hA hB
  cases f <;> cases fx <;> cases fy
  all_goals
    go_enter Tryd.func24, Tryd.ntmps24
    go_wp2_with fail
    refine (C1.out _ (HE.out.below (bnew w _))).mono ?_
    rintro r w1 ⟨rfl, b1⟩
    have KR := aside (blk_on (heap_alloc_new w (.cells #[.int .i64 0, .int .i64 0] 23)) b1)
    have b01 := bthen (bnew w _) b1
    clear b1
    go_wp2_with fail
    refine (C2.out _ (HE.out.below b01)).mono ?_
    rintro r w2 ⟨rfl, b2⟩
    have KR2 := aside (blk_on KR.out b2)
    have b02 := bthen b01 b2
    clear b2 b01 KR
    go_wp2_with fail
    refine (C3.out _ (HE.out.below b02)).mono ?_
    rintro r w3 ⟨rfl, b3⟩
    have kR := blk_on KR2.out b3
    have b03 := bthen b02 b3
    have t0 : w3.cell? ⟨w.heap.size, 0, none⟩ = some (.int .i64 0) := by rw [cell_of_row _ _ 0 _ _ _ kR]; rfl
    have t1 : w3.cell? ⟨w.heap.size, 1, none⟩ = some (.int .i64 0) := by rw [cell_of_row _ _ 1 _ _ _ kR]; rfl
    have g0 := frozen_of_row w3 w.heap.size 0 _ _ kR
    have g1 := frozen_of_row w3 w.heap.size 1 _ _ kR
    clear b3 b02 KR2 kR
    go_wp2
    refine bodyPost_ret (v := .tuple #[.agg #[.int .i64 x, .int .i64 y], .bool _]) (by simp [results, Tryd.results24, go_sem, t0, t1]) rfl ⟨rfl, ?_⟩
    exact (b03.setCell (p := ⟨w.heap.size, 0, none⟩) (Nat.le_refl _) _).setCell (p := ⟨w.heap.size, 1, none⟩) (Nat.le_refl _) _

theorem cut_len (l sep : List UInt8) : (Lib.cut l sep).1.length ≤ l.length ∧ (Lib.cut l sep).2.1.length ≤ l.length := by
  unfold Lib.cut
  split
  · simp only [List.length_take, List.length_drop]; omega
  · simp

theorem rv_at {s : ByteArray} {x y : Int} {f : Bool} (h : rvF s.data.toList = (x, y, f)) (hs : s.size ≤ 1073741824) (w : World) (hE : Env w) :
    Calls Tryd.prog 24 #[.string s] w fun r w' => r = .returned (.tuple #[.agg #[.int .i64 x, .int .i64 y], .bool f]) ∧ Below w.heap.size w w' := by
  have hlen : s.data.toList.length = s.size := by show s.data.toList.length = s.data.size; simp
  have hcl := cut_len s.data.toList [46]
  rcases hc : Lib.cut s.data.toList [46] with ⟨a, b, g⟩
  rw [hc] at hcl
  simp only [rvF, hc, Prod.mk.injEq] at h
  obtain ⟨rfl, rfl, rfl⟩ := h
  have z : ∀ l : List UInt8, (⟨l.toArray⟩ : ByteArray).size = l.length := fun l => by show l.toArray.size = l.length; simp
  exact rv_of s ⟨a.toArray⟩ ⟨b.toArray⟩ g _ _ _ _ w hE (by rw [hc]) (show rnF (⟨a.toArray⟩ : ByteArray).data.toList = ((rnF a).1, (rnF a).2) from by simp) (show rnF (⟨b.toArray⟩ : ByteArray).data.toList = ((rnF b).1, (rnF b).2) from by simp) hs (by rw [z]; have := hcl.1; simp only at this; omega) (by rw [z]; have := hcl.2; simp only at this; omega)

end Go.Proofs.YtnjbglnkhgholabDoor

/-
  The law ItemText, walked: it returns true at every entry and every text.
-/
import Derived.Test.YtnjbglnkhgholabDoorTJoin2
namespace Go.Proofs.YtnjbglnkhgholabDoor
open Go.RowKit
set_option linter.unusedVariables false

theorem adds (a b : List UInt8) (wx : World) (h : a.length + b.length ≤ 1000) : (Op.stringOp .add ⟨a.toArray⟩ ⟨b.toArray⟩).run Tryd.prog wx = .ok (.string ⟨(a ++ b).toArray⟩) wx := by
  rw [run_string_add_sum wx _ _ (by show a.toArray.size + b.toArray.size ≤ _; simp; omega)]
  congr 2

theorem print_at {k : ByteArray} {c n : Int} {v : ByteArray} {d : Bool} {P : ByteArray} (hq : En.chk ⟨k, c, n, v, d⟩ = 0) (hP : P.data.toList = printL ⟨k, c, n, v, d⟩) (w : World) (hE : Env w) :
    Calls Tryd.prog 5 #[.agg #[.string k, .int .i64 c, .int .i64 n, .string v, .bool d]] w fun e w' => e = .returned (.tuple #[.string P, .int .i64 0]) ∧ Below w.heap.size w w' := by
  obtain ⟨h1, h2, h3, h4, h5, h6⟩ := En.ok_ver hq
  have l1 := Hx.hex_length k.data.toList
  have l2 := Hx.hex_length v.data.toList
  rw [slen] at l1 l2
  have l3 := dec_len (upN c) (by have := upN_eq c; omega)
  have l4 := dec_len (upN n) (by have := upN_eq n; omega)
  have eP : P = ⟨(printL ⟨k, c, n, v, d⟩).toArray⟩ := by rw [← hP, seta]
  subst eP
  cases d
  · exact print_live k c n v w hq hE.tab _ _ _ _ ⟨([107] ++ Hx.hex k.data.toList).toArray⟩ ⟨(Lib.decDigits (upN c) ++ [46]).toArray⟩ ⟨(Lib.decDigits (upN c) ++ [46] ++ Lib.decDigits (upN n)).toArray⟩ ⟨([61] ++ Hx.hex v.data.toList).toArray⟩ ⟨([107] ++ Hx.hex k.data.toList ++ [32]).toArray⟩ ⟨([107] ++ Hx.hex k.data.toList ++ [32] ++ (Lib.decDigits (upN c) ++ [46] ++ Lib.decDigits (upN n))).toArray⟩ ⟨([107] ++ Hx.hex k.data.toList ++ [32] ++ (Lib.decDigits (upN c) ++ [46] ++ Lib.decDigits (upN n)) ++ [32]).toArray⟩ _ rfl rfl rfl rfl (by omega) (by omega) (by omega) (by omega)
      (fun wx => adds [107] _ wx (by simp; omega)) (fun wx => adds _ [46] wx (by simp; omega)) (fun wx => adds _ _ wx (by simp; omega)) (fun wx => adds [61] _ wx (by simp; omega)) (fun wx => adds _ [32] wx (by simp; omega)) (fun wx => adds _ _ wx (by simp; omega)) (fun wx => adds _ [32] wx (by simp; omega)) (fun wx => adds _ _ wx (by simp; omega))
  · exact print_dead k c n v w hq hE.tab _ _ _ _ ⟨([107] ++ Hx.hex k.data.toList).toArray⟩ ⟨(Lib.decDigits (upN c) ++ [46]).toArray⟩ ⟨(Lib.decDigits (upN c) ++ [46] ++ Lib.decDigits (upN n)).toArray⟩ ⟨([61] ++ Hx.hex v.data.toList).toArray⟩ ⟨([107] ++ Hx.hex k.data.toList ++ [32]).toArray⟩ ⟨([107] ++ Hx.hex k.data.toList ++ [32] ++ (Lib.decDigits (upN c) ++ [46] ++ Lib.decDigits (upN n))).toArray⟩ ⟨([107] ++ Hx.hex k.data.toList ++ [32] ++ (Lib.decDigits (upN c) ++ [46] ++ Lib.decDigits (upN n)) ++ [32]).toArray⟩ _ rfl rfl rfl rfl (by omega) (by omega) (by omega) (by omega)
      (fun wx => adds [107] _ wx (by simp; omega)) (fun wx => adds _ [46] wx (by simp; omega)) (fun wx => adds _ _ wx (by simp; omega)) (fun wx => adds [61] _ wx (by simp; omega)) (fun wx => adds _ [32] wx (by simp; omega)) (fun wx => adds _ _ wx (by simp; omega)) (fun wx => adds _ [32] wx (by simp; omega)) (fun wx => adds _ [120] wx (by simp; omega))

theorem printRef_at {k : ByteArray} {c n : Int} {v : ByteArray} {d : Bool} {P : ByteArray} (hq : En.chk ⟨k, c, n, v, d⟩ = 0) (hP : P.data.toList = printL ⟨k, c, n, v, d⟩) (w : World) :
    Calls Tryd.prog 6 #[.agg #[.string k, .int .i64 c, .int .i64 n, .string v, .bool d]] w fun e w' => e = .returned (.tuple #[.string P, .int .i64 0]) ∧ Below w.heap.size w w' := by
  obtain ⟨h1, h2, h3, h4, h5, h6⟩ := En.ok_ver hq
  have l1 := Hx.hex_length k.data.toList
  have l2 := Hx.hex_length v.data.toList
  rw [slen] at l1 l2
  have l3 := dec_len (upN c) (by have := upN_eq c; omega)
  have l4 := dec_len (upN n) (by have := upN_eq n; omega)
  cases d
  · have eP : P = ⟨([107] ++ Hx.hex k.data.toList ++ [32] ++ Lib.decDigits (upN c) ++ [46] ++ Lib.decDigits (upN n) ++ [32] ++ [61] ++ Hx.hex v.data.toList).toArray⟩ := by rw [← seta P, hP]; simp [printL, List.append_assoc]
    subst eP
    exact printRef_live k c n v w hq _ _ _ _ ⟨([107] ++ Hx.hex k.data.toList).toArray⟩ ⟨([107] ++ Hx.hex k.data.toList ++ [32]).toArray⟩ ⟨([107] ++ Hx.hex k.data.toList ++ [32] ++ Lib.decDigits (upN c)).toArray⟩ ⟨([107] ++ Hx.hex k.data.toList ++ [32] ++ Lib.decDigits (upN c) ++ [46]).toArray⟩ ⟨([107] ++ Hx.hex k.data.toList ++ [32] ++ Lib.decDigits (upN c) ++ [46] ++ Lib.decDigits (upN n)).toArray⟩ ⟨([107] ++ Hx.hex k.data.toList ++ [32] ++ Lib.decDigits (upN c) ++ [46] ++ Lib.decDigits (upN n) ++ [32]).toArray⟩ ⟨([107] ++ Hx.hex k.data.toList ++ [32] ++ Lib.decDigits (upN c) ++ [46] ++ Lib.decDigits (upN n) ++ [32] ++ [61]).toArray⟩ _ rfl rfl rfl rfl (by omega) (by omega) (by omega) (by omega)
      (fun wx => adds [107] _ wx (by simp; omega)) (fun wx => adds _ [32] wx (by simp; omega)) (fun wx => adds _ _ wx (by simp; omega)) (fun wx => adds _ [46] wx (by simp; omega)) (fun wx => adds _ _ wx (by simp; omega)) (fun wx => adds _ [32] wx (by simp; omega)) (fun wx => adds _ [61] wx (by simp; omega)) (fun wx => adds _ _ wx (by simp; omega))
  · have eP : P = ⟨([107] ++ Hx.hex k.data.toList ++ [32] ++ Lib.decDigits (upN c) ++ [46] ++ Lib.decDigits (upN n) ++ [32] ++ [120]).toArray⟩ := by rw [← seta P, hP]; simp [printL, List.append_assoc]
    subst eP
    exact printRef_dead k c n v w hq _ _ _ _ ⟨([107] ++ Hx.hex k.data.toList).toArray⟩ ⟨([107] ++ Hx.hex k.data.toList ++ [32]).toArray⟩ ⟨([107] ++ Hx.hex k.data.toList ++ [32] ++ Lib.decDigits (upN c)).toArray⟩ ⟨([107] ++ Hx.hex k.data.toList ++ [32] ++ Lib.decDigits (upN c) ++ [46]).toArray⟩ ⟨([107] ++ Hx.hex k.data.toList ++ [32] ++ Lib.decDigits (upN c) ++ [46] ++ Lib.decDigits (upN n)).toArray⟩ ⟨([107] ++ Hx.hex k.data.toList ++ [32] ++ Lib.decDigits (upN c) ++ [46] ++ Lib.decDigits (upN n) ++ [32]).toArray⟩ ⟨#[]⟩ _ rfl rfl rfl rfl (by omega) (by omega) (by omega) (by omega)
      (fun wx => adds [107] _ wx (by simp; omega)) (fun wx => adds _ [32] wx (by simp; omega)) (fun wx => adds _ _ wx (by simp; omega)) (fun wx => adds _ [46] wx (by simp; omega)) (fun wx => adds _ _ wx (by simp; omega)) (fun wx => adds _ [32] wx (by simp; omega)) (fun wx => adds _ [120] wx (by simp; omega))

set_option maxHeartbeats 400000 in
theorem tlong_yes (k : ByteArray) (c n : Int) (v : ByteArray) (d : Bool) (w : World) (h : (1073741824 : Int) < k.size ∨ (1073741824 : Int) < v.size) :
    Calls Tryd.prog 4 #[.agg #[.string k, .int .i64 c, .int .i64 n, .string v, .bool d]] w fun e w' => e = .returned (.bool true) ∧ Below w.heap.size w w' := by
  by_cases h1 : (1073741824 : Int) < k.size
  · clear h
    go_enter Tryd.func4, Tryd.ntmps4
    go_wp2
    go_ret
    exact ⟨rfl, bnew w _⟩
  · have h2 : (1073741824 : Int) < v.size := by omega
    clear h
    go_enter Tryd.func4, Tryd.ntmps4
    go_wp2
    go_ret
    exact ⟨by first | rfl | exact ret_bool (decide_eq_true (by omega)), bnew w _⟩
set_option maxHeartbeats 400000 in
theorem tlong_no (k : ByteArray) (c n : Int) (v : ByteArray) (d : Bool) (w : World) (h1 : ¬ (1073741824 : Int) < k.size) (h2 : ¬ (1073741824 : Int) < v.size) :
    Calls Tryd.prog 4 #[.agg #[.string k, .int .i64 c, .int .i64 n, .string v, .bool d]] w fun e w' => e = .returned (.bool false) ∧ Below w.heap.size w w' := by
  go_enter Tryd.func4, Tryd.ntmps4
  go_wp2
  go_ret
  exact ⟨by first | rfl | exact ret_bool (decide_eq_false (by omega)), bnew w _⟩

theorem parse_bad_chk {l : List UInt8} {R : En} {q : Int} (h : parseF l = (R, q)) (hq : q ≠ 0) : R.chk ≠ 0 := by
  have hR : R = noEn := by
    unfold parseF at h
    split at h
    · cases h; rfl
    · split at h
      · cases h; rfl
      · split at h
        · cases h; rfl
        · split at h
          · cases h; exact absurd rfl hq
          · cases h; rfl
  rw [hR]
  show En.chk ⟨⟨#[]⟩, 0, 0, ⟨#[]⟩, false⟩ ≠ 0
  rw [En.chk_ver _ _ (by decide) (chk_bad1 0 (by decide))]
  decide

theorem dead_empty {k : ByteArray} {c n : Int} {v : ByteArray} {d : Bool} (hq : En.chk ⟨k, c, n, v, d⟩ = 0) (hd : d = true) : v = ⟨#[]⟩ := by
  subst hd
  obtain ⟨h1, h2, h3, h4, h5, h6⟩ := En.ok_ver hq
  rw [En.chk_rest true (by omega) (chk_ok (by omega) (by omega) (by omega) (by omega)) (by omega)] at hq
  have : v.toList.isEmpty = true := by
    cases hE : v.toList.isEmpty
    · rw [hE] at hq; simp at hq
    · rfl
  rw [ByteArray.toList_eq] at this
  obtain ⟨⟨x⟩⟩ := v
  simp at this
  rw [this]

theorem print_len {k : ByteArray} {c n : Int} {v : ByteArray} {d : Bool} (hq : En.chk ⟨k, c, n, v, d⟩ = 0) : (printL ⟨k, c, n, v, d⟩).length ≤ 1073741824 := by
  obtain ⟨h1, h2, h3, h4, h5, h6⟩ := En.ok_ver hq
  have l1 := Hx.hex_length k.data.toList
  have l2 := Hx.hex_length v.data.toList
  rw [slen] at l1 l2
  have l3 := dec_len (upN c) (by have := upN_eq c; omega)
  have l4 := dec_len (upN n) (by have := upN_eq n; omega)
  cases d <;> simp [printL] <;> omega

set_option maxRecDepth 100000 in
set_option maxHeartbeats 6400000 in
theorem ltext_11 (k : ByteArray) (c n : Int) (v : ByteArray) (d : Bool) (s gk : ByteArray) (gc gn : Int) (gv : ByteArray) (gd : Bool) (q q2 : Int) (w : World) (hE : Env w)
    (h1 : ¬ (1073741824 : Int) < k.size) (h2 : ¬ (1073741824 : Int) < v.size) (hs : s.size ≤ 1073741824) (hq : En.chk ⟨k, c, n, v, d⟩ = q) (hz : q = 0) (hO : parseF s.data.toList = (⟨gk, gc, gn, gv, gd⟩, q2)) (hz2 : q2 = 0) :
    Calls Tryd.prog 3 #[.agg #[.string k, .int .i64 c, .int .i64 n, .string v, .bool d], .string s] w fun e w' => e = .returned (.bool true) ∧ Below w.heap.size w w' := by
  have C0 := aside (fun w => tlong_no k c n v d w h1 h2)
  have hs' : (s.size : Int) ≤ 1073741824 := by omega
  subst hz
  obtain ⟨P, hP⟩ : ∃ P : ByteArray, P.data.toList = printL ⟨k, c, n, v, d⟩ := ⟨⟨(printL ⟨k, c, n, v, d⟩).toArray⟩, by simp⟩
  have B1 := aside (fun w hE => print_at (P := P) hq hP w hE)
  have B2 := aside (fun w => printRef_at (P := P) hq hP w)
  have hPs : P.size ≤ 1073741824 := by rw [← slen, hP]; exact print_len hq
  have O1 : Hid (∀ (w : World), Env w → Calls Tryd.prog 7 #[.string P] w fun r w' => r = .returned (.tuple #[.agg #[.string k, .int .i64 c, .int .i64 n, .string v, .bool d], .int .i64 0]) ∧ Below w.heap.size w w') := fun w hE => parse_at (R := ⟨k, c, n, v, d⟩) (q := 0) (by rw [hP]; exact parse_print ⟨k, c, n, v, d⟩ hq (by have := En.ok_ver hq; simp only; omega) (dead_empty hq)) hPs w hE
  clear hP hPs
  have O2 : Hid (∀ (w : World), Env w → Calls Tryd.prog 7 #[.string s] w fun r w' => r = .returned (.tuple #[.agg #[.string gk, .int .i64 gc, .int .i64 gn, .string gv, .bool gd], .int .i64 q2]) ∧ Below w.heap.size w w') := fun w hE => parse_at (R := ⟨gk, gc, gn, gv, gd⟩) hO hs w hE
  have O3 : Hid (∀ (w : World), Calls Tryd.prog 8 #[.string s] w fun r w' => r = .returned (.tuple #[.agg #[.string gk, .int .i64 gc, .int .i64 gn, .string gv, .bool gd], .int .i64 q2]) ∧ Below w.heap.size w w') := fun w => parseRef_at (R := ⟨gk, gc, gn, gv, gd⟩) hO hs w
  subst hz2
  have hI := parse_inv hO
  have B3 := aside (fun w hE => print_at (P := s) hI.1 hI.2.symm w hE)
  clear hI
  have HE := aside hE
  clear hq hO h1 h2 hE hs
  go_enter Tryd.func3, Tryd.ntmps3
  go_wp2_with fail
  refine (C0.out _).mono ?_
  rintro e w1 ⟨rfl, b1⟩
  have KA := aside (blk_on (heap_alloc_new w (.cells #[.string k, .int .i64 c, .int .i64 n, .string v, .bool d] 25)) b1)
  have BW := aside (bthen (bnew w (.cells #[.string k, .int .i64 c, .int .i64 n, .string v, .bool d] 25)) b1)
  obtain ⟨⟨r0, r1, r2, r3, r4⟩, -⟩ := quint KA.out
  clear b1 C0
  go_wp2_with fail
  refine (B1.out _ (HE.out.below BW.out)).mono ?_
  rintro e w3 ⟨rfl, b3⟩
  have KA3 := aside (blk_on KA.out b3)
  have BW3 := aside (bthen BW.out b3)
  clear r0 r1 r2 r3 r4 KA BW b3 B1
  obtain ⟨⟨r0, r1, r2, r3, r4⟩, -⟩ := quint KA3.out
  go_wp2_with fail
  refine (B2.out _).mono ?_
  rintro e w5 ⟨rfl, b4⟩
  have KA5 := aside (blk_on KA3.out b4)
  have BW5 := aside (bthen BW3.out b4)
  clear r0 r1 r2 r3 r4 KA3 BW3 b4 B2
  go_wp2_with fail
  refine (O1.out _ (HE.out.below BW5.out)).mono ?_
  rintro e w6 ⟨rfl, b6⟩
  have bN := bthen b6 (bnew w6 (.cells #[.string k, .int .i64 c, .int .i64 n, .string v, .bool d] 25))
  have BW6 := aside (bthen BW5.out bN)
  obtain ⟨⟨r0, r1, r2, r3, r4⟩, -⟩ := quint (blk_on KA5.out bN)
  obtain ⟨⟨s0, s1, s2, s3, s4⟩, -⟩ := quint (heap_alloc_new w6 (.cells #[.string k, .int .i64 c, .int .i64 n, .string v, .bool d] 25))
  clear KA5 BW5 b6 bN O1
  go_wp2_with fail
  refine (O2.out _ (HE.out.below BW6.out)).mono ?_
  rintro e w7 ⟨rfl, b7⟩
  have bN := bthen b7 (bnew w7 (.cells #[.string gk, .int .i64 gc, .int .i64 gn, .string gv, .bool gd] 25))
  have BW7 := aside (bthen BW6.out bN)
  have KK7 := aside (heap_alloc_new w7 (.cells #[.string gk, .int .i64 gc, .int .i64 gn, .string gv, .bool gd] 25))
  clear r0 r1 r2 r3 r4 s0 s1 s2 s3 s4
  clear BW6 b7 bN O2
  go_wp2_with fail
  refine (O3.out _).mono ?_
  rintro e w8 ⟨rfl, b8⟩
  have bN := bthen b8 (bnew w8 (.cells #[.string gk, .int .i64 gc, .int .i64 gn, .string gv, .bool gd] 25))
  have BW8 := aside (bthen BW7.out bN)
  have KK8 := aside (blk_on KK7.out bN)
  obtain ⟨⟨r0, r1, r2, r3, r4⟩, -⟩ := quint KK8.out
  obtain ⟨⟨s0, s1, s2, s3, s4⟩, -⟩ := quint (heap_alloc_new w8 (.cells #[.string gk, .int .i64 gc, .int .i64 gn, .string gv, .bool gd] 25))
  clear BW7 KK7 b8 bN O3
  go_wp2_with fail
  refine (B3.out _ (HE.out.below BW8.out)).mono ?_
  rintro e w10 ⟨rfl, b10⟩
  have BW10 := aside (bthen BW8.out b10)
  clear r0 r1 r2 r3 r4 s0 s1 s2 s3 s4 b10 BW8 KK8
  go_wp2
  go_ret
  exact ⟨by first | rfl | simp, BW10.out⟩

set_option maxRecDepth 100000 in
set_option maxHeartbeats 6400000 in
theorem ltext_10 (k : ByteArray) (c n : Int) (v : ByteArray) (d : Bool) (s gk : ByteArray) (gc gn : Int) (gv : ByteArray) (gd : Bool) (q q2 : Int) (w : World) (hE : Env w)
    (h1 : ¬ (1073741824 : Int) < k.size) (h2 : ¬ (1073741824 : Int) < v.size) (hs : s.size ≤ 1073741824) (hq : En.chk ⟨k, c, n, v, d⟩ = q) (hz : q = 0) (hO : parseF s.data.toList = (⟨gk, gc, gn, gv, gd⟩, q2)) (hz2 : q2 ≠ 0) :
    Calls Tryd.prog 3 #[.agg #[.string k, .int .i64 c, .int .i64 n, .string v, .bool d], .string s] w fun e w' => e = .returned (.bool true) ∧ Below w.heap.size w w' := by
  have C0 := aside (fun w => tlong_no k c n v d w h1 h2)
  have hs' : (s.size : Int) ≤ 1073741824 := by omega
  subst hz
  obtain ⟨P, hP⟩ : ∃ P : ByteArray, P.data.toList = printL ⟨k, c, n, v, d⟩ := ⟨⟨(printL ⟨k, c, n, v, d⟩).toArray⟩, by simp⟩
  have B1 := aside (fun w hE => print_at (P := P) hq hP w hE)
  have B2 := aside (fun w => printRef_at (P := P) hq hP w)
  have hPs : P.size ≤ 1073741824 := by rw [← slen, hP]; exact print_len hq
  have O1 : Hid (∀ (w : World), Env w → Calls Tryd.prog 7 #[.string P] w fun r w' => r = .returned (.tuple #[.agg #[.string k, .int .i64 c, .int .i64 n, .string v, .bool d], .int .i64 0]) ∧ Below w.heap.size w w') := fun w hE => parse_at (R := ⟨k, c, n, v, d⟩) (q := 0) (by rw [hP]; exact parse_print ⟨k, c, n, v, d⟩ hq (by have := En.ok_ver hq; simp only; omega) (dead_empty hq)) hPs w hE
  clear hP hPs
  have O2 : Hid (∀ (w : World), Env w → Calls Tryd.prog 7 #[.string s] w fun r w' => r = .returned (.tuple #[.agg #[.string gk, .int .i64 gc, .int .i64 gn, .string gv, .bool gd], .int .i64 q2]) ∧ Below w.heap.size w w') := fun w hE => parse_at (R := ⟨gk, gc, gn, gv, gd⟩) hO hs w hE
  have O3 : Hid (∀ (w : World), Calls Tryd.prog 8 #[.string s] w fun r w' => r = .returned (.tuple #[.agg #[.string gk, .int .i64 gc, .int .i64 gn, .string gv, .bool gd], .int .i64 q2]) ∧ Below w.heap.size w w') := fun w => parseRef_at (R := ⟨gk, gc, gn, gv, gd⟩) hO hs w
  have hne2 : (q2 != 0) = true := by simp [hz2]
  obtain ⟨qz, hqz, hqn⟩ : ∃ qz, En.chk ⟨gk, gc, gn, gv, gd⟩ = qz ∧ qz ≠ 0 := ⟨_, rfl, parse_bad_chk hO hz2⟩
  have B3 := aside (fun w (hE : Env w) => print_no gk gc gn gv gd qz w hqz hqn)
  clear hqz hqn hz2
  have HE := aside hE
  clear hq hO h1 h2 hE hs
  go_enter Tryd.func3, Tryd.ntmps3
  go_wp2_with fail
  refine (C0.out _).mono ?_
  rintro e w1 ⟨rfl, b1⟩
  have KA := aside (blk_on (heap_alloc_new w (.cells #[.string k, .int .i64 c, .int .i64 n, .string v, .bool d] 25)) b1)
  have BW := aside (bthen (bnew w (.cells #[.string k, .int .i64 c, .int .i64 n, .string v, .bool d] 25)) b1)
  obtain ⟨⟨r0, r1, r2, r3, r4⟩, -⟩ := quint KA.out
  clear b1 C0
  go_wp2_with fail
  refine (B1.out _ (HE.out.below BW.out)).mono ?_
  rintro e w3 ⟨rfl, b3⟩
  have KA3 := aside (blk_on KA.out b3)
  have BW3 := aside (bthen BW.out b3)
  clear r0 r1 r2 r3 r4 KA BW b3 B1
  obtain ⟨⟨r0, r1, r2, r3, r4⟩, -⟩ := quint KA3.out
  go_wp2_with fail
  refine (B2.out _).mono ?_
  rintro e w5 ⟨rfl, b4⟩
  have KA5 := aside (blk_on KA3.out b4)
  have BW5 := aside (bthen BW3.out b4)
  clear r0 r1 r2 r3 r4 KA3 BW3 b4 B2
  go_wp2_with fail
  refine (O1.out _ (HE.out.below BW5.out)).mono ?_
  rintro e w6 ⟨rfl, b6⟩
  have bN := bthen b6 (bnew w6 (.cells #[.string k, .int .i64 c, .int .i64 n, .string v, .bool d] 25))
  have BW6 := aside (bthen BW5.out bN)
  obtain ⟨⟨r0, r1, r2, r3, r4⟩, -⟩ := quint (blk_on KA5.out bN)
  obtain ⟨⟨s0, s1, s2, s3, s4⟩, -⟩ := quint (heap_alloc_new w6 (.cells #[.string k, .int .i64 c, .int .i64 n, .string v, .bool d] 25))
  clear KA5 BW5 b6 bN O1
  go_wp2_with fail
  refine (O2.out _ (HE.out.below BW6.out)).mono ?_
  rintro e w7 ⟨rfl, b7⟩
  have bN := bthen b7 (bnew w7 (.cells #[.string gk, .int .i64 gc, .int .i64 gn, .string gv, .bool gd] 25))
  have BW7 := aside (bthen BW6.out bN)
  have KK7 := aside (heap_alloc_new w7 (.cells #[.string gk, .int .i64 gc, .int .i64 gn, .string gv, .bool gd] 25))
  clear r0 r1 r2 r3 r4 s0 s1 s2 s3 s4
  clear BW6 b7 bN O2
  go_wp2_with fail
  refine (O3.out _).mono ?_
  rintro e w8 ⟨rfl, b8⟩
  have bN := bthen b8 (bnew w8 (.cells #[.string gk, .int .i64 gc, .int .i64 gn, .string gv, .bool gd] 25))
  have BW8 := aside (bthen BW7.out bN)
  have KK8 := aside (blk_on KK7.out bN)
  obtain ⟨⟨r0, r1, r2, r3, r4⟩, -⟩ := quint KK8.out
  obtain ⟨⟨s0, s1, s2, s3, s4⟩, -⟩ := quint (heap_alloc_new w8 (.cells #[.string gk, .int .i64 gc, .int .i64 gn, .string gv, .bool gd] 25))
  clear BW7 KK7 b8 bN O3
  go_wp2_with fail
  refine (B3.out _ (HE.out.below BW8.out)).mono ?_
  rintro e w10 ⟨rfl, b10⟩
  have BW10 := aside (bthen BW8.out b10)
  clear r0 r1 r2 r3 r4 s0 s1 s2 s3 s4 b10 BW8 KK8
  go_wp2
  go_ret
  exact ⟨by first | rfl | simp, BW10.out⟩

set_option maxRecDepth 100000 in
set_option maxHeartbeats 6400000 in
theorem ltext_01 (k : ByteArray) (c n : Int) (v : ByteArray) (d : Bool) (s gk : ByteArray) (gc gn : Int) (gv : ByteArray) (gd : Bool) (q q2 : Int) (w : World) (hE : Env w)
    (h1 : ¬ (1073741824 : Int) < k.size) (h2 : ¬ (1073741824 : Int) < v.size) (hs : s.size ≤ 1073741824) (hq : En.chk ⟨k, c, n, v, d⟩ = q) (hz : q ≠ 0) (hO : parseF s.data.toList = (⟨gk, gc, gn, gv, gd⟩, q2)) (hz2 : q2 = 0) :
    Calls Tryd.prog 3 #[.agg #[.string k, .int .i64 c, .int .i64 n, .string v, .bool d], .string s] w fun e w' => e = .returned (.bool true) ∧ Below w.heap.size w w' := by
  have C0 := aside (fun w => tlong_no k c n v d w h1 h2)
  have hs' : (s.size : Int) ≤ 1073741824 := by omega
  have B1 := aside (fun w (hE : Env w) => print_no k c n v d q w hq hz)
  have B2 := aside (fun w => printRef_no k c n v d q w hq hz)
  have heq : (q == 0) = false := by simp [hz]
  have O2 : Hid (∀ (w : World), Env w → Calls Tryd.prog 7 #[.string s] w fun r w' => r = .returned (.tuple #[.agg #[.string gk, .int .i64 gc, .int .i64 gn, .string gv, .bool gd], .int .i64 q2]) ∧ Below w.heap.size w w') := fun w hE => parse_at (R := ⟨gk, gc, gn, gv, gd⟩) hO hs w hE
  have O3 : Hid (∀ (w : World), Calls Tryd.prog 8 #[.string s] w fun r w' => r = .returned (.tuple #[.agg #[.string gk, .int .i64 gc, .int .i64 gn, .string gv, .bool gd], .int .i64 q2]) ∧ Below w.heap.size w w') := fun w => parseRef_at (R := ⟨gk, gc, gn, gv, gd⟩) hO hs w
  subst hz2
  have hI := parse_inv hO
  have B3 := aside (fun w hE => print_at (P := s) hI.1 hI.2.symm w hE)
  clear hI
  have HE := aside hE
  clear hq hO h1 h2 hE hs hz
  go_enter Tryd.func3, Tryd.ntmps3
  go_wp2_with fail
  refine (C0.out _).mono ?_
  rintro e w1 ⟨rfl, b1⟩
  have KA := aside (blk_on (heap_alloc_new w (.cells #[.string k, .int .i64 c, .int .i64 n, .string v, .bool d] 25)) b1)
  have BW := aside (bthen (bnew w (.cells #[.string k, .int .i64 c, .int .i64 n, .string v, .bool d] 25)) b1)
  obtain ⟨⟨r0, r1, r2, r3, r4⟩, -⟩ := quint KA.out
  clear b1 C0
  go_wp2_with fail
  refine (B1.out _ (HE.out.below BW.out)).mono ?_
  rintro e w3 ⟨rfl, b3⟩
  have KA3 := aside (blk_on KA.out b3)
  have BW3 := aside (bthen BW.out b3)
  clear r0 r1 r2 r3 r4 KA BW b3 B1
  obtain ⟨⟨r0, r1, r2, r3, r4⟩, -⟩ := quint KA3.out
  go_wp2_with fail
  refine (B2.out _).mono ?_
  rintro e w5 ⟨rfl, b4⟩
  have KA5 := aside (blk_on KA3.out b4)
  have BW5 := aside (bthen BW3.out b4)
  clear r0 r1 r2 r3 r4 KA3 BW3 b4 B2
  go_wp2_with fail
  refine (O2.out _ (HE.out.below BW5.out)).mono ?_
  rintro e w7 ⟨rfl, b7⟩
  have bN := bthen b7 (bnew w7 (.cells #[.string gk, .int .i64 gc, .int .i64 gn, .string gv, .bool gd] 25))
  have BW7 := aside (bthen BW5.out bN)
  have KK7 := aside (heap_alloc_new w7 (.cells #[.string gk, .int .i64 gc, .int .i64 gn, .string gv, .bool gd] 25))
  clear KA5
  clear BW5 b7 bN O2
  go_wp2_with fail
  refine (O3.out _).mono ?_
  rintro e w8 ⟨rfl, b8⟩
  have bN := bthen b8 (bnew w8 (.cells #[.string gk, .int .i64 gc, .int .i64 gn, .string gv, .bool gd] 25))
  have BW8 := aside (bthen BW7.out bN)
  have KK8 := aside (blk_on KK7.out bN)
  obtain ⟨⟨r0, r1, r2, r3, r4⟩, -⟩ := quint KK8.out
  obtain ⟨⟨s0, s1, s2, s3, s4⟩, -⟩ := quint (heap_alloc_new w8 (.cells #[.string gk, .int .i64 gc, .int .i64 gn, .string gv, .bool gd] 25))
  clear BW7 KK7 b8 bN O3
  go_wp2_with fail
  refine (B3.out _ (HE.out.below BW8.out)).mono ?_
  rintro e w10 ⟨rfl, b10⟩
  have BW10 := aside (bthen BW8.out b10)
  clear r0 r1 r2 r3 r4 s0 s1 s2 s3 s4 b10 BW8 KK8
  go_wp2
  go_ret
  exact ⟨by first | rfl | simp, BW10.out⟩

set_option maxRecDepth 100000 in
set_option maxHeartbeats 6400000 in
theorem ltext_00 (k : ByteArray) (c n : Int) (v : ByteArray) (d : Bool) (s gk : ByteArray) (gc gn : Int) (gv : ByteArray) (gd : Bool) (q q2 : Int) (w : World) (hE : Env w)
    (h1 : ¬ (1073741824 : Int) < k.size) (h2 : ¬ (1073741824 : Int) < v.size) (hs : s.size ≤ 1073741824) (hq : En.chk ⟨k, c, n, v, d⟩ = q) (hz : q ≠ 0) (hO : parseF s.data.toList = (⟨gk, gc, gn, gv, gd⟩, q2)) (hz2 : q2 ≠ 0) :
    Calls Tryd.prog 3 #[.agg #[.string k, .int .i64 c, .int .i64 n, .string v, .bool d], .string s] w fun e w' => e = .returned (.bool true) ∧ Below w.heap.size w w' := by
  have C0 := aside (fun w => tlong_no k c n v d w h1 h2)
  have hs' : (s.size : Int) ≤ 1073741824 := by omega
  have B1 := aside (fun w (hE : Env w) => print_no k c n v d q w hq hz)
  have B2 := aside (fun w => printRef_no k c n v d q w hq hz)
  have heq : (q == 0) = false := by simp [hz]
  have O2 : Hid (∀ (w : World), Env w → Calls Tryd.prog 7 #[.string s] w fun r w' => r = .returned (.tuple #[.agg #[.string gk, .int .i64 gc, .int .i64 gn, .string gv, .bool gd], .int .i64 q2]) ∧ Below w.heap.size w w') := fun w hE => parse_at (R := ⟨gk, gc, gn, gv, gd⟩) hO hs w hE
  have O3 : Hid (∀ (w : World), Calls Tryd.prog 8 #[.string s] w fun r w' => r = .returned (.tuple #[.agg #[.string gk, .int .i64 gc, .int .i64 gn, .string gv, .bool gd], .int .i64 q2]) ∧ Below w.heap.size w w') := fun w => parseRef_at (R := ⟨gk, gc, gn, gv, gd⟩) hO hs w
  have hne2 : (q2 != 0) = true := by simp [hz2]
  obtain ⟨qz, hqz, hqn⟩ : ∃ qz, En.chk ⟨gk, gc, gn, gv, gd⟩ = qz ∧ qz ≠ 0 := ⟨_, rfl, parse_bad_chk hO hz2⟩
  have B3 := aside (fun w (hE : Env w) => print_no gk gc gn gv gd qz w hqz hqn)
  clear hqz hqn hz2
  have HE := aside hE
  clear hq hO h1 h2 hE hs hz
  go_enter Tryd.func3, Tryd.ntmps3
  go_wp2_with fail
  refine (C0.out _).mono ?_
  rintro e w1 ⟨rfl, b1⟩
  have KA := aside (blk_on (heap_alloc_new w (.cells #[.string k, .int .i64 c, .int .i64 n, .string v, .bool d] 25)) b1)
  have BW := aside (bthen (bnew w (.cells #[.string k, .int .i64 c, .int .i64 n, .string v, .bool d] 25)) b1)
  obtain ⟨⟨r0, r1, r2, r3, r4⟩, -⟩ := quint KA.out
  clear b1 C0
  go_wp2_with fail
  refine (B1.out _ (HE.out.below BW.out)).mono ?_
  rintro e w3 ⟨rfl, b3⟩
  have KA3 := aside (blk_on KA.out b3)
  have BW3 := aside (bthen BW.out b3)
  clear r0 r1 r2 r3 r4 KA BW b3 B1
  obtain ⟨⟨r0, r1, r2, r3, r4⟩, -⟩ := quint KA3.out
  go_wp2_with fail
  refine (B2.out _).mono ?_
  rintro e w5 ⟨rfl, b4⟩
  have KA5 := aside (blk_on KA3.out b4)
  have BW5 := aside (bthen BW3.out b4)
  clear r0 r1 r2 r3 r4 KA3 BW3 b4 B2
  go_wp2_with fail
  refine (O2.out _ (HE.out.below BW5.out)).mono ?_
  rintro e w7 ⟨rfl, b7⟩
  have bN := bthen b7 (bnew w7 (.cells #[.string gk, .int .i64 gc, .int .i64 gn, .string gv, .bool gd] 25))
  have BW7 := aside (bthen BW5.out bN)
  have KK7 := aside (heap_alloc_new w7 (.cells #[.string gk, .int .i64 gc, .int .i64 gn, .string gv, .bool gd] 25))
  clear KA5
  clear BW5 b7 bN O2
  go_wp2_with fail
  refine (O3.out _).mono ?_
  rintro e w8 ⟨rfl, b8⟩
  have bN := bthen b8 (bnew w8 (.cells #[.string gk, .int .i64 gc, .int .i64 gn, .string gv, .bool gd] 25))
  have BW8 := aside (bthen BW7.out bN)
  have KK8 := aside (blk_on KK7.out bN)
  obtain ⟨⟨r0, r1, r2, r3, r4⟩, -⟩ := quint KK8.out
  obtain ⟨⟨s0, s1, s2, s3, s4⟩, -⟩ := quint (heap_alloc_new w8 (.cells #[.string gk, .int .i64 gc, .int .i64 gn, .string gv, .bool gd] 25))
  clear BW7 KK7 b8 bN O3
  go_wp2_with fail
  refine (B3.out _ (HE.out.below BW8.out)).mono ?_
  rintro e w10 ⟨rfl, b10⟩
  have BW10 := aside (bthen BW8.out b10)
  clear r0 r1 r2 r3 r4 s0 s1 s2 s3 s4 b10 BW8 KK8
  go_wp2
  go_ret
  exact ⟨by first | rfl | simp, BW10.out⟩

set_option maxHeartbeats 1600000 in
set_option maxRecDepth 100000 in
theorem ltext_long (k : ByteArray) (c n : Int) (v : ByteArray) (d : Bool) (s : ByteArray) (w : World) (h : (1073741824 : Int) < k.size ∨ (1073741824 : Int) < v.size) : Calls Tryd.prog 3 #[.agg #[.string k, .int .i64 c, .int .i64 n, .string v, .bool d], .string s] w fun e w' => e = .returned (.bool true) ∧ Below w.heap.size w w' := by
  have C0 := aside (fun w => tlong_yes k c n v d w h)
  clear h
  go_enter Tryd.func3, Tryd.ntmps3
  go_wp2_with fail
  refine (C0.out _).mono ?_
  rintro e w1 ⟨rfl, b1⟩
  have b0 := bthen (bnew w _) b1
  clear b1
  go_wp2
  go_ret
  exact ⟨rfl, b0⟩

set_option maxHeartbeats 1600000 in
set_option maxRecDepth 100000 in
theorem ltext_wide (k : ByteArray) (c n : Int) (v : ByteArray) (d : Bool) (s : ByteArray) (w : World) (h1 : ¬ (1073741824 : Int) < k.size) (h2 : ¬ (1073741824 : Int) < v.size) (h3 : (1073741824 : Int) < (s.size : Int)) : Calls Tryd.prog 3 #[.agg #[.string k, .int .i64 c, .int .i64 n, .string v, .bool d], .string s] w fun e w' => e = .returned (.bool true) ∧ Below w.heap.size w w' := by
  have C0 := aside (fun w => tlong_no k c n v d w h1 h2)
  clear h1 h2
  go_enter Tryd.func3, Tryd.ntmps3
  go_wp2_with fail
  refine (C0.out _).mono ?_
  rintro e w1 ⟨rfl, b1⟩
  have b0 := bthen (bnew w _) b1
  clear b1
  go_wp2
  go_ret
  exact ⟨rfl, b0⟩

theorem ltext_walk (k : ByteArray) (c n : Int) (v : ByteArray) (d : Bool) (s : ByteArray) (w : World) (hE : Env w) : Calls Tryd.prog 3 #[.agg #[.string k, .int .i64 c, .int .i64 n, .string v, .bool d], .string s] w fun e w' => e = .returned (.bool true) ∧ Below w.heap.size w w' := by
  by_cases h : (1073741824 : Int) < k.size ∨ (1073741824 : Int) < v.size
  · exact ltext_long k c n v d s w h
  have h1 : ¬ (1073741824 : Int) < k.size := fun e => h (.inl e)
  have h2 : ¬ (1073741824 : Int) < v.size := fun e => h (.inr e)
  by_cases h3 : (1073741824 : Int) < (s.size : Int)
  · exact ltext_wide k c n v d s w h1 h2 h3
  have hs : s.size ≤ 1073741824 := by omega
  rcases hO : parseF s.data.toList with ⟨⟨gk, gc, gn, gv, gd⟩, q2⟩
  by_cases hq : En.chk ⟨k, c, n, v, d⟩ = 0 <;> by_cases hq2 : q2 = 0
  · exact ltext_11 k c n v d s gk gc gn gv gd _ q2 w hE h1 h2 hs rfl hq hO hq2
  · exact ltext_10 k c n v d s gk gc gn gv gd _ q2 w hE h1 h2 hs rfl hq hO hq2
  · exact ltext_01 k c n v d s gk gc gn gv gd _ q2 w hE h1 h2 hs rfl hq hO hq2
  · exact ltext_00 k c n v d s gk gc gn gv gd _ q2 w hE h1 h2 hs rfl hq hO hq2

end Go.Proofs.YtnjbglnkhgholabDoor

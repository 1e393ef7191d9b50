/-
  MatchSame, walked.
-/
import Derived.Test.YtpbkjffiohfkcabGreatDoorBs29
import Derived.Test.YtpbkjffiohfkcabGreatDoorBs30
import Derived.Test.YtpbkjffiohfkcabGreatDoorBs34
namespace Go.Proofs.YtpbkjffiohfkcabGreatDoor
open Go.RowKit
set_option linter.unusedVariables false
set_option maxHeartbeats 6400000 in
set_option maxRecDepth 100000 in
theorem sameLaw_any (a : Option Addr) (len cap : Nat) (T : Nat → En) (lo hi : ByteArray) (op : Bool) (b lf : Int) (w : World) (h : EntsIn w a len cap T) (hform : (a = none ∧ len = 0 ∧ cap = 0) ∨ ∃ y, a = some y) (L : Lanes w) :
    Calls Tryz.prog 3 #[.slice a len cap, .agg #[.string lo, .string hi, .bool op], .int .i64 b, .int .i64 lf] w fun e w' => e = .returned (.bool true) ∧ Below w.heap.size w w' := by
  have HE := aside h
  have HF := aside hform
  have LL := aside L
  clear h hform L
  have B0 := aside (bnew w (.cells #[.string lo, .string hi, .bool op] 24))
  have K0 := aside (heap_alloc_new w (.cells #[.string lo, .string hi, .bool op] 24))
  obtain ⟨rb, hrb⟩ : ∃ rb, w.heap.size = rb := ⟨_, rfl⟩
  rw [hrb] at K0
  obtain ⟨w0, hw0⟩ : ∃ w0, w.alloc (.cells #[.string lo, .string hi, .bool op] 24) = w0 := ⟨_, rfl⟩
  rw [hw0] at B0 K0
  obtain ⟨r0, r1, r2⟩ := box3r K0.out
  have C1 := aside (one_any (⟨0, lo, hi, op, 0, 0, 0, none, 0, 0, fun _ => eZ⟩ : Pm) w0 (bare_in _ rfl rfl rfl))
  go_enter Tryz.func3, Tryz.ntmps3
  go_wp2_with fail
  refine C1.out.mono ?_
  rintro e w1 ⟨g1, c1, rfl, pi1, -, b1⟩
  have PI1 := aside (pi1.keep (bnew w1 (.cells #[.slice a len cap] 22)))
  have BN := aside (bthen b1 (bnew w1 (.cells #[.slice a len cap] 22)))
  have B1 := aside (bthen B0.out BN.out)
  have K1 := aside (blk_on K0.out BN.out)
  have LI := aside (show ListsIn (w1.alloc (.cells #[.slice a len cap] 22)) w1.heap.size 1 (fun _ => a) (fun _ => len) (fun _ => cap) (fun _ => T) from fun k hk => by
    obtain rfl : k = 0 := by omega
    exact ⟨cell_one (heap_alloc_new w1 (.cells #[.slice a len cap] 22)), HE.out.keep B1.out⟩)
  clear b1 pi1 C1 B0 K0 BN r0 r1 r2
  obtain ⟨w2, hw2⟩ : ∃ w2, w1.alloc (.cells #[.slice a len cap] 22) = w2 := ⟨_, rfl⟩
  rw [hw2] at PI1 B1 K1 LI
  have C2 := aside (beyond13_any (some ⟨g1, 0, none⟩) 1 c1 (fun _ => (⟨0, lo, hi, op, 0, 0, 0, none, 0, 0, fun _ => eZ⟩ : Pm)) w1.heap.size 1 1 _ _ _ _ w2 (by omega) LI.out PI1.out)
  go_wp2_with fail
  refine C2.out.mono ?_
  rintro e w3 ⟨q, rfl, -, b3⟩
  have B3 := aside (bthen B1.out b3)
  have K3 := aside (blk_on K1.out b3)
  clear b3 C2 LI PI1 B1 K1 hw2
  cases q with
  | true =>
    go_wp2
    go_ret
    exact ⟨rfl, B3.out⟩
  | false =>
    have C3 := aside (right13_any 6 a len cap T w3 (HE.out.keep B3.out) HF.out)
    go_wp2_with fail
    refine C3.out.mono ?_
    rintro e w4 ⟨q, rfl, hq, b4⟩
    have B4 := aside (bthen B3.out b4)
    have K4 := aside (blk_on K3.out b4)
    have HQ := aside hq
    clear b4 C3 B3 K3 hq
    cases q with
    | false =>
      go_wp2
      go_ret
      exact ⟨rfl, B4.out⟩
    | true =>
      have HO := aside (HQ.out.1 rfl)
      have HO7 := aside (show LdOk 7 1099511627776 (firstE T len) from ⟨rfl, HO.out.c0, HO.out.c1, HO.out.len, HO.out.map, HO.out.ver⟩)
      have C4 := aside (made13_any 6 a len cap T w4 (HE.out.keep B4.out) HF.out (LL.out.keep B4.out) HO.out)
      go_wp2_with fail
      refine C4.out.mono ?_
      rintro e w5 ⟨sa, ga, ta, da, rfl, pp, b5⟩
      have BA := bthen b5 (bnew w5 (.cells #[.pointer (some ⟨sa, 0, none⟩), .pointer (some ⟨da, 0, none⟩)] 39))
      have B5 := aside (bthen B4.out BA)
      have K5 := aside (blk_on K4.out BA)
      have QA := aside (pp.below (bnew w5 (.cells #[.pointer (some ⟨sa, 0, none⟩), .pointer (some ⟨da, 0, none⟩)] 39)))
      have KA := aside (heap_alloc_new w5 (.cells #[.pointer (some ⟨sa, 0, none⟩), .pointer (some ⟨da, 0, none⟩)] 39))
      obtain ⟨pa, hpa⟩ : ∃ pa, w5.heap.size = pa := ⟨_, rfl⟩
      rw [hpa] at KA
      have HGA := aside (show w.heap.size ≤ sa ∧ w.heap.size ≤ ga ∧ w.heap.size ≤ ta from by have h1 := pp.s; have h2 := pp.g; have h3 := pp.t; have h4 := B4.out.size; omega)
      clear b5 pp C4 BA K4 B4
      obtain ⟨w6, hw6⟩ : ∃ w6, w5.alloc (.cells #[.pointer (some ⟨sa, 0, none⟩), .pointer (some ⟨da, 0, none⟩)] 39) = w6 := ⟨_, rfl⟩
      rw [hw6] at B5 K5 QA KA
      generalize (w4.heap.size + 1) = D0 at *
      have C5 := aside (made13_any 7 a len cap T w6 (HE.out.keep B5.out) HF.out (LL.out.keep B5.out) HO7.out)
      go_wp2_with fail
      refine C5.out.mono ?_
      rintro e w7 ⟨sb, g, tb, db, rfl, pp, b7⟩
      have BA := bthen b7 (bnew w7 (.cells #[.pointer (some ⟨sb, 0, none⟩), .pointer (some ⟨db, 0, none⟩)] 39))
      have B7 := aside (bthen B5.out BA)
      have K7 := aside (blk_on K5.out BA)
      have KA7 := aside (blk_on KA.out BA)
      have QA7 := aside (QA.out.below BA)
      have QB := aside (pp.below (bnew w7 (.cells #[.pointer (some ⟨sb, 0, none⟩), .pointer (some ⟨db, 0, none⟩)] 39)))
      have KB := aside (heap_alloc_new w7 (.cells #[.pointer (some ⟨sb, 0, none⟩), .pointer (some ⟨db, 0, none⟩)] 39))
      obtain ⟨pb, hpb⟩ : ∃ pb, w7.heap.size = pb := ⟨_, rfl⟩
      rw [hpb] at KB
      have HGB := aside (show w.heap.size ≤ sb ∧ w.heap.size ≤ g ∧ w.heap.size ≤ tb from by have h1 := pp.s; have h2 := pp.g; have h3 := pp.t; have h4 := B5.out.size; omega)
      have NE := aside (show sb ≠ sa ∧ g ≠ ga ∧ tb ≠ ta from by
        obtain ⟨l1, l2, l3⟩ := QA.out.code.lt
        have h1 := pp.s; have h2 := pp.g; have h3 := pp.t
        omega)
      clear b7 pp C5 BA K5 B5 QA KA hw6
      obtain ⟨w8, hw8⟩ : ∃ w8, w7.alloc (.cells #[.pointer (some ⟨sb, 0, none⟩), .pointer (some ⟨db, 0, none⟩)] 39) = w8 := ⟨_, rfl⟩
      rw [hw8] at B7 K7 KA7 QA7 QB KB
      generalize (w6.heap.size + 1) = D1 at *
      have HL := aside (show (firstE T len).length ≤ 1000000 from by have := HO.out.len; omega)
      have CD := aside (rprint_any lo hi op QA7.out.doc HO.out.map HL.out)
      obtain ⟨er, her⟩ : ∃ er, prErr ⟨lo, hi, op⟩ = er := ⟨_, rfl⟩
      have HER := aside her
      obtain ⟨t, ht⟩ : ∃ t, foldV lo hi op (firstE T len) = t := ⟨_, rfl⟩
      have HT := aside ht
      rw [her, ht] at CD
      clear her ht
      obtain ⟨r0, r1, r2⟩ := box3r K7.out
      obtain ⟨u0, u1⟩ := two_cells KA7.out
      by_cases he0 : er = 0
      rotate_left
      · obtain ⟨p, hp, -, -, -⟩ := prV_pm lo hi op t er
        rw [hp] at CD
        have heb : (er == 0) = false := by simpa using he0
        clear hp
        go_wp2_with fail
        refine CD.out.mono ?_
        rintro e w9 ⟨rfl, b9⟩
        have B9 := aside (bthen B7.out (bthen b9 (bnew w9 (.cells #[.int .i64 p.kind, .string p.lo, .string p.hi, .bool p.op, .int .i64 p.cnt, .int .u64 p.s0, .int .u64 p.s1, .slice p.ea p.el p.ec] 34))))
        clear b9 CD r0 r1 r2 u0 u1
        go_wp2
        go_ret
        exact ⟨rfl, B9.out⟩
      · subst he0
        obtain ⟨p, hpe⟩ : ∃ p : Pm, p = ⟨1, lo, hi, op, t.n, t.a, t.b, none, 0, 0, fun _ => eZ⟩ := ⟨_, rfl⟩
        have hp : prV lo hi op t 0 = .agg #[.int .i64 p.kind, .string p.lo, .string p.hi, .bool p.op, .int .i64 p.cnt, .int .u64 p.s0, .int .u64 p.s1, .slice p.ea p.el p.ec] := by rw [hpe]; unfold prV; rw [if_pos rfl]
        rw [hp] at CD
        have HPE := aside hpe
        have HP := aside hp
        clear hp hpe
        go_wp2_with fail
        refine CD.out.mono ?_
        rintro e w9 ⟨rfl, b9⟩
        have BA := bthen b9 (bnew w9 (.cells #[.int .i64 p.kind, .string p.lo, .string p.hi, .bool p.op, .int .i64 p.cnt, .int .u64 p.s0, .int .u64 p.s1, .slice p.ea p.el p.ec] 34))
        have B9 := aside (bthen B7.out BA)
        have K9 := aside (blk_on K7.out BA)
        have KA9 := aside (blk_on KA7.out BA)
        have KB9 := aside (blk_on KB.out BA)
        have QA9 := aside (QA7.out.below BA)
        have QB9 := aside (QB.out.below BA)
        clear b9 BA CD r0 r1 r2 u0 u1 K7 KA7 KB QA7 QB B7 hw8
        obtain ⟨X, hX⟩ : ∃ X, w9.alloc (.cells #[.int .i64 p.kind, .string p.lo, .string p.hi, .bool p.op, .int .i64 p.cnt, .int .u64 p.s0, .int .u64 p.s1, .slice p.ea p.el p.ec] 34) = X := ⟨_, rfl⟩
        rw [hX] at B9 K9 KA9 KB9 QA9 QB9
        by_cases hin : 2 ≤ b ∧ b ≤ 16 ∧ 1 ≤ lf ∧ lf ≤ 32
        rotate_left
        · have hcase : b < 2 ∨ (¬ b < 2 ∧ 16 < b) ∨ (¬ b < 2 ∧ ¬ 16 < b ∧ lf < 1) ∨ (¬ b < 2 ∧ ¬ 16 < b ∧ ¬ lf < 1 ∧ 32 < lf) := by omega
          clear hin
          rcases hcase with h1 | ⟨h1, h2⟩ | ⟨h1, h2, h3⟩ | ⟨h1, h2, h3, h4⟩
          all_goals
            go_wp2
            go_ret
            exact ⟨rfl, B9.out⟩
        · obtain ⟨i1, i2, i3, i4⟩ := hin
          have HI := aside (show inB b lf = true from by unfold inB; simp; omega)
          have h1 : ¬ b < 2 := by omega
          have h2 : ¬ 16 < b := by omega
          have h3 : ¬ lf < 1 := by omega
          have h4 : ¬ 32 < lf := by omega
          clear i1 i2 i3 i4
          obtain ⟨r0, r1, r2⟩ := box3r K9.out
          obtain ⟨u0, u1⟩ := two_cells KA9.out
          have CC := aside (print_any lo hi op QA9.out.code QA9.out.lanes HL.out)
          rw [HER.out, HT.out, HP.out] at CC
          go_wp2_with fail
          clear h1 h2 h3 h4
          refine CC.out.mono ?_
          rintro e w10 ⟨rfl, s10, k10, l10⟩
          have BA := bnew w10 (.cells #[.int .i64 p.kind, .string p.lo, .string p.hi, .bool p.op, .int .i64 p.cnt, .int .u64 p.s0, .int .u64 p.s1, .slice p.ea p.el p.ec] 34)
          have B10 := aside ((B9.out.trans (k10.below B9.out.size (fun k hk => by have := HGA.out; unfold Of; omega))).alloc (by have h1 := B9.out.size; have h2 := k10.size; omega) (.cells #[.int .i64 p.kind, .string p.lo, .string p.hi, .bool p.op, .int .i64 p.cnt, .int .u64 p.s0, .int .u64 p.s1, .slice p.ea p.el p.ec] 34))
          have KB10 := aside (blk_on (blk_keep KB9.out k10 (QA9.out.code.not KB9.out (by decide) (by decide) (by decide))) BA)
          have SB10 := aside ((QB9.out.code.keep QA9.out.code k10 NE.out.1 NE.out.2.1 NE.out.2.2).below BA)
          have L10 := aside (l10.keep BA)
          have KX := aside (heap_alloc_new w10 (.cells #[.int .i64 p.kind, .string p.lo, .string p.hi, .bool p.op, .int .i64 p.cnt, .int .u64 p.s0, .int .u64 p.s1, .slice p.ea p.el p.ec] 34))
          obtain ⟨xb, hxb⟩ : ∃ xb, w10.heap.size = xb := ⟨_, rfl⟩
          rw [hxb] at KX
          clear s10 k10 l10 BA CC r0 r1 r2 u0 u1 K9 KA9 KB9 QA9 QB9 B9 hX
          obtain ⟨Y, hY⟩ : ∃ Y, w10.alloc (.cells #[.int .i64 p.kind, .string p.lo, .string p.hi, .bool p.op, .int .i64 p.cnt, .int .u64 p.s0, .int .u64 p.s1, .slice p.ea p.el p.ec] 34) = Y := ⟨_, rfl⟩
          rw [hY] at B10 KB10 SB10 L10 KX
          obtain ⟨v0, v1⟩ := two_cells KB10.out
          obtain ⟨p0, p1, p2, p3, p4, p5, p6, p7⟩ := oct KX.out
          have hpl : p.lo = lo ∧ p.hi = hi ∧ p.op = op ∧ p.cnt = t.n ∧ p.s0 = t.a ∧ p.s1 = t.b ∧ p.kind = 1 ∧ p.el = 0 := by rw [HPE.out]; exact ⟨rfl, rfl, rfl, rfl, rfl, rfl, rfl, rfl⟩
          obtain ⟨e1, e2, e3, e4, e5, e6, e7, e8⟩ := hpl
          have CE := aside (Compare_same b lf p SB10.out L10.out HL.out (by rw [e1, e2, e3, e4, HT.out]) (by rw [e1, e2, e3, e5, HT.out]) (by rw [e1, e2, e3, e6, HT.out]) HI.out (by rw [HPE.out]; exact bare_in _ rfl rfl rfl) e7 (by rw [HPE.out, ← HT.out]; exact pr_chk HO.out.map HO.out.len HER.out) (by omega))
          clear e1 e2 e3 e4 e5 e6 e7 e8
          go_wp2_with fail
          refine CE.out.mono ?_
          rintro e w11 ⟨rfl, -, k11, -⟩
          have B11 := aside (B10.out.trans (k11.below B10.out.size (fun k hk => by have := HGB.out; unfold Of; omega)))
          clear k11 CE p0 p1 p2 p3 p4 p5 p6 p7 v0 v1
          go_wp2
          go_ret
          exact ⟨rfl, B11.out⟩
end Go.Proofs.YtpbkjffiohfkcabGreatDoor

/-
  Compare and Exchange of the code and of the document, of any part.
-/
import Derived.Test.YtpbkjffiohfkcaaGreatDoorBs42
import Derived.Test.YtpbkjffiohfkcaaGreatDoorBs43
import Derived.Test.YtpbkjffiohfkcaaGreatDoorBs44
namespace Go.Proofs.YtpbkjffiohfkcaaGreatDoor
open Go.RowKit
set_option linter.unusedVariables false
def cQ (b lf : Int) (p : Pm) (Ls : List En) : List Pq := if cErr b lf p = 0 then cmpQ b lf p.rg p.cnt p.s0 p.s1 Ls else []
theorem cQ_no {b lf : Int} {p : Pm} {Ls : List En} (h : cErr b lf p ≠ 0) : cQ b lf p Ls = [] := by unfold cQ; rw [if_neg h]
theorem cQ_yes {b lf : Int} {p : Pm} {Ls : List En} (h : cErr b lf p = 0) : cQ b lf p Ls = cmpQ b lf p.rg p.cnt p.s0 p.s1 Ls := by unfold cQ; rw [if_pos h]
def tkX (p : Pm) (s : TkS) : TkS := if xErr p = 0 then tkAll s (firstE p.T p.el) else s
def xQ (p : Pm) (Ls : List En) : List Pq := if xErr p = 0 then rpQ p Ls else []
theorem cmpQ_keys {b lf : Int} {r : Rg} {cnt s0 s1 : Int} {Ls : List En} (hm : MapL Ls) : ∀ q ∈ cmpQ b lf r cnt s0 s1 Ls, KeysOk q.es := by
 intro q hq
 unfold cmpQ at hq
 split at hq
 ·cases hq
 ·split at hq
  ·rw [List.mem_singleton] at hq
   subst hq
   exact fun e he => key_small ((thru_map hm).chk e he)
  ·unfold spQ at hq
   obtain ⟨i, -, rfl⟩ := List.mem_map.1 hq
   intro e he
   cases he
set_option maxHeartbeats 6400000 in
set_option maxRecDepth 100000 in
theorem cmpX_any (b lf : Int) (p : Pm) {w : World} {sb g tb : Nat} {nd ck : Int} {Ls : List En} (h : Sto w sb g tb nd ck Ls) (L : Lanes w) (hm : MapL Ls) (hl : Ls.length ≤ 256) (hP : p.In w) (hz : p.el ≤ 4611686018427387904) :
    Calls Tryz.prog 14 #[.pointer (some ⟨sb, 0, none⟩), .int .i64 b, .int .i64 lf, .agg #[.int .i64 p.kind, .string p.lo, .string p.hi, .bool p.op, .int .i64 p.cnt, .int .u64 p.s0, .int .u64 p.s1, .slice p.ea p.el p.ec]] w fun r w' => ∃ v, r = .returned (.tuple #[v, .int .i64 (cErr b lf p)]) ∧ Told w.heap.size v (cQ b lf p Ls) w' ∧ Sto w' sb g tb nd ck Ls ∧ Keeps (Of sb g tb) w w' ∧ Lanes w' := by
 have BX := aside (bnew w (.cells #[.int .i64 p.kind, .string p.lo, .string p.hi, .bool p.op, .int .i64 p.cnt, .int .u64 p.s0, .int .u64 p.s1, .slice p.ea p.el p.ec] 47))
 have KX := aside (heap_alloc_new w (.cells #[.int .i64 p.kind, .string p.lo, .string p.hi, .bool p.op, .int .i64 p.cnt, .int .u64 p.s0, .int .u64 p.s1, .slice p.ea p.el p.ec] 47))
 have CI := aside (fun W => inb_any b lf W)
 have CK := aside (fun (W : World) (bb : Below w.heap.size w W) => parts_any (some ⟨W.heap.size, 0, none⟩) 1 1 (fun _ => p) (W.alloc (.cells #[.int .i64 p.kind, .string p.lo, .string p.hi, .bool p.op, .int .i64 p.cnt, .int .u64 p.s0, .int .u64 p.s1, .slice p.ea p.el p.ec] 47)) ⟨Nat.le_refl _, by unfold maxLen; omega, .inr ⟨W.heap.size, 0, rfl, by simp, fun i hi => ⟨by
  obtain rfl : i = 0 := by omega
  exact oct (heap_alloc_new W (.cells #[.int .i64 p.kind, .string p.lo, .string p.hi, .bool p.op, .int .i64 p.cnt, .int .u64 p.s0, .int .u64 p.s1, .slice p.ea p.el p.ec] 47)), hP.keep (bthen bb (bnew W _))⟩⟩⟩ (by simp only [totE]; omega))
 have H := aside h
 have LL := aside L
 have HM := aside hm
 have HL := aside hl
 obtain ⟨q, hq⟩ : ∃ q, psChk (fun _ => p) 1 = q := ⟨_, rfl⟩
 have HCE := aside (show cErr b lf p = if inB b lf = false then 1 else if q ≠ 0 then q else if p.kind = 1 then 0 else 114 from by unfold cErr; rw [hq])
 rw [hq] at CK
 clear h L hl hm hP hz hq
 obtain ⟨pb, hpb⟩ : ∃ pb, w.heap.size = pb := ⟨_, rfl⟩
 have HPB := aside hpb
 rw [hpb] at KX
 obtain ⟨X, hX⟩ : ∃ X, w.alloc (.cells #[.int .i64 p.kind, .string p.lo, .string p.hi, .bool p.op, .int .i64 p.cnt, .int .u64 p.s0, .int .u64 p.s1, .slice p.ea p.el p.ec] 47) = X := ⟨_, rfl⟩
 rw [hX] at BX KX
 cases hI : inB b lf
 ·rw [hI] at CI
  have HE := aside (show cErr b lf p = 1 from by rw [HCE.out, if_pos hI])
  go_enter Tryz.func14, Tryz.ntmps14
  go_wp2_with fail
  refine (CI.out _).mono ?_
  rintro e w1 ⟨rfl, b1⟩
  have B1 := aside (bthen BX.out b1)
  have K1 := aside (blk_on KX.out b1)
  clear b1 CI BX KX hX
  go_wp2
  go_ret2
  exact ⟨_, by rw [HE.out] <;> rfl, by rw [cQ_no (by rw [HE.out]; decide)]; exact Told.zero _ _, H.out.below B1.out, Keeps.of_below B1.out _, LL.out.keep B1.out⟩
 rw [hI] at CI
 have HCE2 := aside (show cErr b lf p = if q ≠ 0 then q else if p.kind = 1 then 0 else 114 from by rw [HCE.out, if_neg (by rw [hI]; simp)])
 have HI := aside hI
 clear HCE hI
 go_enter Tryz.func14, Tryz.ntmps14
 go_wp2_with fail
 refine (CI.out _).mono ?_
 rintro e w1 ⟨rfl, b1⟩
 have B1 := aside (bthen BX.out b1)
 have K1 := aside (blk_on KX.out b1)
 clear b1 CI BX KX hX
 obtain ⟨p0, p1, p2, p3, p4, p5, p6, p7⟩ := oct K1.out
 go_wp2_with fail
 refine (CK.out _ B1.out).mono ?_
 rintro e w2 ⟨rfl, b2⟩
 have B2 := aside (bthen B1.out (bthen (bnew w1 _) b2))
 have K2 := aside (blk_on K1.out (bthen (bnew w1 _) b2))
 clear b2 CK B1 K1 p0 p1 p2 p3 p4 p5 p6 p7
 by_cases hq0 : q = 0
 rotate_left
 ·have hqb : (q == 0) = false := by simpa using hq0
  have HE := aside (show cErr b lf p = q from by rw [HCE2.out, if_pos hq0])
  have HQ0 := aside hq0
  go_wp2
  go_ret2
  exact ⟨_, by rw [HE.out] <;> rfl, by rw [cQ_no (by rw [HE.out]; exact HQ0.out)]; exact Told.zero _ _, H.out.below B2.out, Keeps.of_below B2.out _, LL.out.keep B2.out⟩
 subst hq0
 obtain ⟨p0, p1, p2, p3, p4, p5, p6, p7⟩ := oct K2.out
 by_cases hk : p.kind = 1
 rotate_left
 ·have hkb : (p.kind == 1) = false := by simpa using hk
  have HE := aside (show cErr b lf p = 114 from by rw [HCE2.out, if_neg (by simp), if_neg hk])
  go_wp2
  go_ret2
  exact ⟨_, by rw [HE.out] <;> rfl, by rw [cQ_no (by rw [HE.out]; decide)]; exact Told.zero _ _, H.out.below B2.out, Keeps.of_below B2.out _, LL.out.keep B2.out⟩
 have hkb : (p.kind == 1) = true := by simpa using hk
 have HC0 := aside (show cErr b lf p = 0 from by rw [HCE2.out, if_neg (by simp), if_pos hk])
 have CM := aside (cmpC_any b lf p (H.out.below B2.out) (LL.out.keep B2.out) HM.out HL.out HI.out (cErr_ok HC0.out).2.2.2)
 clear hk HCE2
 go_wp2_with fail
 refine CM.out.mono ?_
 rintro e w3 ⟨v3, rfl, t3, s3, k3, l3⟩
 have T3 := aside (t3.low B2.out.size)
 have S3 := aside s3
 have L3 := aside l3
 have K3 := aside ((Keeps.of_below B2.out _).trans k3)
 clear t3 s3 l3 k3 CM p0 p1 p2 p3 p4 p5 p6 p7
 go_wp2
 go_ret2
 exact ⟨_, by rw [HC0.out] <;> rfl, by rw [cQ_yes HC0.out]; exact T3.out, S3.out, K3.out, L3.out⟩
theorem rcmpU (b lf : Int) (p : Pm) {w : World} {B db : Nat} {nd ck : Int} {l : List En} (h : DSt w B db nd ck l) (hm : MapL l) (hl : l.length ≤ 256) (hP : p.In w) :
    Calls Tryz.prog 24 #[.pointer (some ⟨db, 0, none⟩), .int .i64 b, .int .i64 lf, .agg #[.int .i64 p.kind, .string p.lo, .string p.hi, .bool p.op, .int .i64 p.cnt, .int .u64 p.s0, .int .u64 p.s1, .slice p.ea p.el p.ec]] w fun r w' => ∃ v, r = .returned (.tuple #[v, .int .i64 (cErr b lf p)]) ∧ Told w.heap.size v (cQ b lf p l) w' ∧ Below w.heap.size w w' := by
 refine (rcmp_any b lf p h hm hl hP).mono ?_
 rintro e w' (⟨h0, rfl, b1⟩ | ⟨h0, v, rfl, t1, b1⟩)
 ·exact ⟨_, rfl, by rw [cQ_no h0]; exact Told.zero _ _, b1⟩
 ·exact ⟨_, by rw [h0], by rw [cQ_yes h0]; exact t1, b1⟩
theorem xchgU (p : Pm) {w : World} {sb g tb : Nat} {nd ck : Int} {Ls : List En} (h : Sto w sb g tb nd ck Ls) (hm : MapL Ls) (hl : Ls.length ≤ 256) (hP : p.In w) (hz : p.el ≤ 4611686018427387904) (L : Lanes w) :
    Calls Tryz.prog 15 #[.pointer (some ⟨sb, 0, none⟩), .agg #[.int .i64 p.kind, .string p.lo, .string p.hi, .bool p.op, .int .i64 p.cnt, .int .u64 p.s0, .int .u64 p.s1, .slice p.ea p.el p.ec]] w fun r w' => ∃ v, r = .returned (.tuple #[v, .agg #[.int .i64 ((tkX p ⟨Ls, ck, 0, 0⟩).n : Int), .int .i64 ((tkX p ⟨Ls, ck, 0, 0⟩).f : Int)], .int .i64 (xErr p)]) ∧ Told w.heap.size v (xQ p Ls) w' ∧ Sto w' sb g tb nd (tkX p ⟨Ls, ck, 0, 0⟩).c (tkX p ⟨Ls, ck, 0, 0⟩).l ∧ Keeps (Of sb g tb) w w' ∧ Lanes w' := by
 refine (xchg_any p h hm hl hP hz L).mono ?_
 rintro e w' (⟨h0, rfl, s1, k1, l1⟩ | ⟨h0, v, rfl, rp, s1, k1, l1⟩)
 ·unfold tkX xQ
  rw [if_neg h0, if_neg h0]
  exact ⟨_, rfl, Told.zero _ _, s1, k1, l1⟩
 ·unfold tkX xQ
  rw [if_pos h0, if_pos h0]
  exact ⟨_, by rw [h0], (RpAt.told rp).low (by omega), s1, k1, l1⟩
theorem rxchgU (p : Pm) {w : World} {B db : Nat} {nd ck : Int} {l : List En} (h : DSt w B db nd ck l) (hm : MapL l) (hl : l.length ≤ 256) (hB : B ≤ w.heap.size) (hP : p.In w) :
    Calls Tryz.prog 20 #[.pointer (some ⟨db, 0, none⟩), .agg #[.int .i64 p.kind, .string p.lo, .string p.hi, .bool p.op, .int .i64 p.cnt, .int .u64 p.s0, .int .u64 p.s1, .slice p.ea p.el p.ec]] w fun r w' => ∃ v, r = .returned (.tuple #[v, .agg #[.int .i64 ((tkX p ⟨l, ck, 0, 0⟩).n : Int), .int .i64 ((tkX p ⟨l, ck, 0, 0⟩).f : Int)], .int .i64 (xErr p)]) ∧ Told w.heap.size v (xQ p l) w' ∧ DSt w' B db nd (tkX p ⟨l, ck, 0, 0⟩).c (tkX p ⟨l, ck, 0, 0⟩).l ∧ Keeps (fun x => x = db) w w' := by
 refine (rxchgQ_any p h hm hl hB hP).mono ?_
 rintro e w' (⟨h0, rfl, s1, k1⟩ | ⟨h0, v, rfl, t1, s1, k1⟩)
 ·unfold tkX xQ
  rw [if_neg h0, if_neg h0]
  exact ⟨_, rfl, Told.zero _ _, s1, k1⟩
 ·unfold tkX xQ
  rw [if_pos h0, if_pos h0]
  exact ⟨_, by rw [h0], t1, s1, k1⟩
theorem heard_run (n f m k : Int) (w : World) : (binOp .eql 33 (.agg #[.int .i64 n, .int .i64 f]) (.agg #[.int .i64 m, .int .i64 k])).run Tryz.prog w = .ok (.bool (n == m && f == k)) w := by
 rw [run_eql_struct, show (10000 : Nat) = 9999 + 1 from rfl]
 go_simp
 by_cases h1 : n = m <;> by_cases h2 : f = k <;> simp [h1, h2]
end Go.Proofs.YtpbkjffiohfkcaaGreatDoor

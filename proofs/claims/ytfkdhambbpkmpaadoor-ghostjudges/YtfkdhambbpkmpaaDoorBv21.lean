/-
  The document's Twins.
-/
import Derived.Test.YtfkdhambbpkmpaaDoorBv20
import Derived.Deep.LoopGhost
namespace Go.Proofs.YtfkdhambbpkmpaaDoor
open Go.RowKit
set_option linter.unusedVariables false
/-- The range of all keys. -/
def wholeR : Rg := ⟨⟨#[]⟩, ⟨#[]⟩, true⟩
theorem nilB : (⟨#[]⟩ : ByteArray).toList = [] := by decide +kernel
theorem whole_may : wholeR.may = true := by
  unfold wholeR Rg.may
  rw [chk_open (by decide) (by decide), nilB]
  rfl
theorem whole_has {k : ByteArray} (h : k.size ≤ 16) : wholeR.has k = true := by
  unfold Rg.has
  rw [whole_may]
  unfold wholeR
  rw [nilB]
  have h2 : Op.bytesLess k.toList [] = false := by cases k.toList <;> rfl
  rw [h2, decide_eq_true (show (k.size : Int) ≤ 16 by omega)]
  rfl
theorem whole_in {l : List En} (h : MapL l) : inL wholeR l = l := by
  unfold inL
  rw [List.filter_eq_self]
  intro e he
  exact whole_has (by have := (chk_pos (h.chk e he)).2.1; omega)
/-- A range that may be none, as a value. -/
def rgV : Option Rg → Value
  | some r => .agg #[.string r.lo, .string r.hi, .bool r.op]
  | none => .agg #[.string ⟨#[]⟩, .string ⟨#[]⟩, .bool false]
/-- What a session between two maps meets. -/
def twAns (a b : List En) (br lf : Int) : Option Rg := twGo br.toNat lf.toNat (a.length + b.length + 1) b a [wholeR]
/-- What Twins refuses with. -/
def twErr (qa qb br lf : Int) : Int := if qa ≠ 0 then qa else if qb ≠ 0 then qb else if okC br lf then 0 else 1
def twOpt (qa qb : Int) (a b : List En) (br lf : Int) : Option Rg := if twErr qa qb br lf = 0 then twAns a b br lf else none
theorem tw_err1 {q1 q2 br lf : Int} {a b : List En} (h : ¬ q1 = 0) : twOpt q1 q2 a b br lf = none ∧ twErr q1 q2 br lf = q1 := by
  have e : twErr q1 q2 br lf = q1 := by unfold twErr; rw [if_pos h]
  unfold twOpt
  rw [e, if_neg h]
  exact ⟨rfl, rfl⟩
theorem tw_err2 {q2 br lf : Int} {a b : List En} (h : ¬ q2 = 0) : twOpt 0 q2 a b br lf = none ∧ twErr 0 q2 br lf = q2 := by
  have e : twErr 0 q2 br lf = q2 := by unfold twErr; rw [if_neg (by simp), if_pos h]
  unfold twOpt
  rw [e, if_neg h]
  exact ⟨rfl, rfl⟩
theorem tw_err3 {br lf : Int} {a b : List En} (h : ¬ okC br lf) : twOpt 0 0 a b br lf = none ∧ twErr 0 0 br lf = 1 := by
  have e : twErr 0 0 br lf = 1 := by unfold twErr; rw [if_neg (by simp), if_neg (by simp), if_neg h]
  unfold twOpt
  rw [e, if_neg (by simp)]
  exact ⟨rfl, rfl⟩
theorem tw_err0 {br lf : Int} {a b : List En} (h : okC br lf) : twOpt 0 0 a b br lf = twAns a b br lf ∧ twErr 0 0 br lf = 0 := by
  have e : twErr 0 0 br lf = 0 := by unfold twErr; rw [if_neg (by simp), if_neg (by simp), if_pos h]
  unfold twOpt
  rw [e, if_pos rfl]
  exact ⟨rfl, rfl⟩
theorem tw_first {a b : List En} (ha : MapL a) (hb : MapL b) : ∀ r ∈ [wholeR], TwOk b a (a.length + b.length + 1) r := by
  intro r hr
  obtain rfl : r = wholeR := by simpa using hr
  exact ⟨whole_may, by rw [whole_in ha, whole_in hb]; omega⟩
theorem sum_whole {a : List En} (ha : MapL a) : sumIn [wholeR] a = a.length := by
  unfold sumIn
  rw [List.map_cons, whole_in ha]
  simp
/-- Where a session stands. -/
structure TwAt (wr : World) (b lf n : Nat) (ans : Option Rg) (pn qn : Nat) (pa : Option Addr) (pc : Nat) (P : List En) (qa : Option Addr) (qc : Nat) (Q : List En) (L : List Rg) : Prop where
  p : LsIn wr pa pn pc P
  q : LsIn wr qa qn qc Q
  mp : MapL P
  mq : MapL Q
  np : pn ≤ 256
  nq : qn ≤ 256
  sp : sumIn L P ≤ 256
  sq : sumIn L Q ≤ 256
  ok : ∀ r ∈ L, TwOk P Q n r
  ans : twGo b lf n P Q L = ans
theorem TwAt.on {wr w' : World} {b lf n : Nat} {ans : Option Rg} {pn qn : Nat} {pa : Option Addr} {pc : Nat} {P : List En} {qa : Option Addr} {qc : Nat} {Q : List En} {L : List Rg} (h : TwAt wr b lf n ans pn qn pa pc P qa qc Q L) (bb : Below wr.heap.size wr w') : TwAt w' b lf n ans pn qn pa pc P qa qc Q L :=
  ⟨h.p.on bb, h.q.on bb, h.mp, h.mq, h.np, h.nq, h.sp, h.sq, h.ok, h.ans⟩
theorem TwAt.turn {wr : World} {b lf n : Nat} {ans : Option Rg} {pn qn : Nat} {pa : Option Addr} {pc : Nat} {P : List En} {qa : Option Addr} {qc : Nat} {Q : List En} {L : List Rg} (h : TwAt wr b lf (n + 1) ans pn qn pa pc P qa qc Q L) (hb : 2 ≤ b) (hlf : 1 ≤ lf) (hL : L ≠ []) (hf : L.find? (twBad P Q) = none) :
    TwAt wr b lf n ans qn pn qa qc Q pa pc P (L.flatMap (twOut b lf P Q)) :=
  ⟨h.q, h.p, h.mq, h.mp, h.nq, h.np, Nat.le_trans (out_sum h.mp hb Q (fun r hr => (h.ok r hr).may)) h.sq, Nat.le_trans (out_sum h.mp hb P (fun r hr => (h.ok r hr).may)) h.sp, tw_turn h.mp hb hlf h.ok, by rw [← twGo_on hL hf]; exact h.ans⟩
set_option maxHeartbeats 16000000 in
set_option maxRecDepth 100000 in
theorem twins19_any (a : Option Addr) (la ca : Nat) (A : Nat → En) (b : Option Addr) (lb cb : Nat) (B : Nat → En) (br lf : Int) (w : World) (hA : EntsIn w a la ca A) (hB : EntsIn w b lb cb B) :
    Calls Tryd.prog 9 #[.slice a la ca, .slice b lb cb, .int .i64 br, .int .i64 lf] w fun e w' => e = .returned (.tuple #[rgV (twOpt (chkH A la) (chkH B lb) (firstE A la) (firstE B lb) br lf), .bool (twOpt (chkH A la) (chkH B lb) (firstE A la) (firstE B lb) br lf).isSome, .int .i64 (twErr (chkH A la) (chkH B lb) br lf)]) ∧ Below w.heap.size w w' := by
  have N1 := bnew w (.cells #[.string ⟨#[]⟩, .string ⟨#[]⟩, .bool false] 26)
  have KR := aside (heap_alloc_new w (.cells #[.string ⟨#[]⟩, .string ⟨#[]⟩, .bool false] 26))
  have BW := aside N1
  have HA := aside (hA.keep N1)
  have HB := aside (hB.keep N1)
  obtain ⟨V, hV⟩ : ∃ V, w.alloc (.cells #[.string ⟨#[]⟩, .string ⟨#[]⟩, .bool false] 26) = V := ⟨_, rfl⟩
  rw [hV] at KR BW HA HB
  have C1 := aside (held19_any a la ca A V HA.out)
  obtain ⟨q1, hq1⟩ : ∃ q, chkH A la = q := ⟨_, rfl⟩
  obtain ⟨q2, hq2⟩ : ∃ q, chkH B lb = q := ⟨_, rfl⟩
  have HQ1 := aside hq1
  have HQ2 := aside hq2
  rw [hq1, hq2]
  rw [hq1] at C1
  clear hA hB N1 hq1 hq2
  go_enter Tryd.func9, Tryd.ntmps9
  go_wp2_with fail
  refine C1.out.mono ?_
  rintro e w1 ⟨rfl, b1⟩
  replace KR := aside (blk_on KR.out b1)
  replace BW := aside (bthen BW.out b1)
  have C2 := aside (held19_any b lb cb B w1 (HB.out.keep b1))
  rw [HQ2.out] at C2
  replace HA := aside (HA.out.keep b1)
  replace HB := aside (HB.out.keep b1)
  clear b1 C1 hV
  by_cases h1 : q1 = 0
  case neg =>
    have h1b : (q1 != 0) = true := by simpa using h1
    have hE := aside (tw_err1 (q2 := q2) (br := br) (lf := lf) (a := firstE A la) (b := firstE B lb) h1)
    obtain ⟨z0, z1, z2⟩ := box3r KR.out
    have f0 := frozen_of_row _ w.heap.size 0 _ _ KR.out
    have f1 := frozen_of_row _ w.heap.size 1 _ _ KR.out
    have f2 := frozen_of_row _ w.heap.size 2 _ _ KR.out
    obtain ⟨r0, r1, r2⟩ := box3r (set_three KR.out (.string ⟨#[]⟩) (.string ⟨#[]⟩) (.bool false))
    have BF := aside (bel_three BW.out (Nat.le_refl _) (.string ⟨#[]⟩) (.string ⟨#[]⟩) (.bool false))
    go_wp2
    try simp only [Exit.inBlock, Exit.then]
    exact bodyPost_ret (v := .tuple #[.agg #[.string ⟨#[]⟩, .string ⟨#[]⟩, .bool false], .bool false, .int .i64 q1]) (by simp [results, Tryd.results9, go_sem, r0, r1, r2]) rfl ⟨by rw [hE.out.1, hE.out.2]; rfl, BF.out⟩
  subst h1
  go_wp2_with fail
  refine C2.out.mono ?_
  rintro e w2 ⟨rfl, b2⟩
  replace KR := aside (blk_on KR.out b2)
  replace BW := aside (bthen BW.out b2)
  replace HA := aside (HA.out.keep b2)
  replace HB := aside (HB.out.keep b2)
  clear b2 C2
  by_cases h2 : q2 = 0
  case neg =>
    have h2b : (q2 != 0) = true := by simpa using h2
    have hE := aside (tw_err2 (br := br) (lf := lf) (a := firstE A la) (b := firstE B lb) h2)
    obtain ⟨z0, z1, z2⟩ := box3r KR.out
    have f0 := frozen_of_row _ w.heap.size 0 _ _ KR.out
    have f1 := frozen_of_row _ w.heap.size 1 _ _ KR.out
    have f2 := frozen_of_row _ w.heap.size 2 _ _ KR.out
    obtain ⟨r0, r1, r2⟩ := box3r (set_three KR.out (.string ⟨#[]⟩) (.string ⟨#[]⟩) (.bool false))
    have BF := aside (bel_three BW.out (Nat.le_refl _) (.string ⟨#[]⟩) (.string ⟨#[]⟩) (.bool false))
    go_wp2
    try simp only [Exit.inBlock, Exit.then]
    exact bodyPost_ret (v := .tuple #[.agg #[.string ⟨#[]⟩, .string ⟨#[]⟩, .bool false], .bool false, .int .i64 q2]) (by simp [results, Tryd.results9, go_sem, r0, r1, r2]) rfl ⟨by rw [hE.out.1, hE.out.2]; rfl, BF.out⟩
  subst h2
  have CR := aside (right19_any br lf w2)
  obtain ⟨k, hk⟩ : ∃ k, decide (okC br lf) = k := ⟨_, rfl⟩
  rw [hk] at CR
  go_wp2_with fail
  refine CR.out.mono ?_
  rintro e w3 ⟨rfl, rfl⟩
  clear CR
  cases k
  case false =>
    have hE := aside (tw_err3 (a := firstE A la) (b := firstE B lb) (of_decide_eq_false hk))
    obtain ⟨z0, z1, z2⟩ := box3r KR.out
    have f0 := frozen_of_row _ w.heap.size 0 _ _ KR.out
    have f1 := frozen_of_row _ w.heap.size 1 _ _ KR.out
    have f2 := frozen_of_row _ w.heap.size 2 _ _ KR.out
    obtain ⟨r0, r1, r2⟩ := box3r (set_three KR.out (.string ⟨#[]⟩) (.string ⟨#[]⟩) (.bool false))
    have BF := aside (bel_three BW.out (Nat.le_refl _) (.string ⟨#[]⟩) (.string ⟨#[]⟩) (.bool false))
    go_wp2
    try simp only [Exit.inBlock, Exit.then]
    exact bodyPost_ret (v := .tuple #[.agg #[.string ⟨#[]⟩, .string ⟨#[]⟩, .bool false], .bool false, .int .i64 1]) (by simp [results, Tryd.results9, go_sem, r0, r1, r2]) rfl ⟨by rw [hE.out.1, hE.out.2]; rfl, BF.out⟩
  have hok := of_decide_eq_true hk
  obtain ⟨bn, rfl⟩ : ∃ n : Nat, br = (n : Int) := ⟨br.toNat, by have := hok.1; omega⟩
  obtain ⟨fn, rfl⟩ : ∃ n : Nat, lf = (n : Int) := ⟨lf.toNat, by have := hok.2.2.1; omega⟩
  have HOK := aside (show (2 ≤ bn ∧ bn ≤ 16) ∧ (1 ≤ fn ∧ fn ≤ 32) from by obtain ⟨h1, h2, h3, h4⟩ := hok; omega)
  obtain ⟨ans, hans⟩ : ∃ x, twAns (firstE A la) (firstE B lb) (bn : Int) (fn : Int) = x := ⟨_, rfl⟩
  have hE := aside (show twOpt 0 0 (firstE A la) (firstE B lb) (bn : Int) (fn : Int) = ans ∧ twErr 0 0 (bn : Int) (fn : Int) = 0 from ⟨(tw_err0 hok).1.trans hans, (tw_err0 (a := firstE A la) (b := firstE B lb) hok).2⟩)
  have cA := chkH_ok HQ1.out
  have cB := chkH_ok HQ2.out
  have mA := (ck_map la).1 cA.1
  have mB := (ck_map lb).1 cB.1
  have T0 := aside (show TwAt w3 bn fn (la + lb + 1) ans lb la b cb (firstE B lb) a ca (firstE A la) [wholeR] from
    ⟨⟨B, HB.out, rfl⟩, ⟨A, HA.out, rfl⟩, mB, mA, cB.2, cA.2, by rw [sum_whole mB, firstE_len]; exact cB.2, by rw [sum_whole mA, firstE_len]; exact cA.2, by have h9 := tw_first mA mB; rwa [firstE_len, firstE_len] at h9, by unfold twAns at hans; rwa [firstE_len, firstE_len, Int.toNat_natCast, Int.toNat_natCast] at hans⟩)
  have NA := bnew w3 (.cells #[] 26)
  have NB := bnew (w3.alloc (.cells #[] 26)) (.cells #[.string ⟨#[]⟩, .string ⟨#[]⟩, .bool true] 26)
  have OE := aside (own_on (own_empty_rg w3 w3.heap.size (Nat.le_refl _)) NB)
  have KW0 := heap_alloc_new (w3.alloc (.cells #[] 26)) (.cells #[.string ⟨#[]⟩, .string ⟨#[]⟩, .bool true] 26)
  have hsz : w3.heap.size ≤ ((w3.alloc (.cells #[] 26)).alloc (.cells #[.string ⟨#[]⟩, .string ⟨#[]⟩, .bool true] 26)).heap.size := (bthen NA NB).size
  have hlt9 : w3.heap.size + 1 < ((w3.alloc (.cells #[] 26)).alloc (.cells #[.string ⟨#[]⟩, .string ⟨#[]⟩, .bool true] 26)).heap.size := by simp
  rw [World.size_alloc] at KW0
  have KW := aside (show RowIn rgF ((w3.alloc (.cells #[] 26)).alloc (.cells #[.string ⟨#[]⟩, .string ⟨#[]⟩, .bool true] 26)) (some ⟨w3.heap.size + 1, 0, none⟩) 1 1 [wholeR] from
    ⟨rfl, Nat.le_refl _, by unfold maxLen; omega, .inr ⟨w3.heap.size + 1, 0, rfl, hlt9, fun j u hj => by
      have hu : (#[.string ⟨#[]⟩, .string ⟨#[]⟩, .bool true] : Array Value)[j]? = some u := by simpa [rowC, rgF, wholeR] using hj
      rw [Nat.zero_add, cell_of_row _ _ j _ _ _ KW0]
      exact hu⟩⟩)
  have HSZ := aside hsz
  have BE := aside (bthen NA NB)
  clear NA NB KW0 hsz hlt9 hk cA cB mA mB HA HB
  go_wp2_with (at_builtin; go_loud (refine wpList_plain rfl fun K hK => op_append_rowC rgF_ok Tryd.underlying61 infoRgG rfl _ _ rfl w3.heap.size 0 1 _ [] [wholeR] (by rfl) OE.out _ 1 (by rfl) KW.out (by omega) (by unfold maxLen; omega) HSZ.out ?_); intro v8 w8 own8 gr8 hv8; refine hK _ _ ?_; refine Hid.out ?_)
  refine aside ?_
  rw [List.nil_append] at own8
  obtain ⟨ta, tc, rfl, -, -, -⟩ := own_slice own8
  have B8 := aside (BE.out.grown gr8 HSZ.out (fun j e => (OE.out.lt j e).1))
  have R8 := aside (RowIn.of_own rgF_ok own8)
  have K8 := aside (blk_on KR.out B8.out)
  have T8 := aside (T0.out.on B8.out)
  have BW8 := aside (bthen BW.out B8.out)
  clear own8 gr8 hv8 OE KW HSZ BE T0 B8 KR BW
  go_wp2
  go_loopg [12, 13, 14] (la + lb + 1) (fun n t m th wr => ∃ tn ta tc pn pa pc qn qa qc P Q L, t = .slice ta tn tc ∧ m = .slice pa pn pc ∧ th = .slice qa qn qc ∧ Hid (RowIn rgF wr ta tn tc L) ∧ Hid (TwAt wr bn fn n ans pn qn pa pc P qa qc Q L) ∧ Hid (Below w.heap.size w wr) ∧ Hid (wr.heap[w.heap.size]? = some (.cells #[.string ⟨#[]⟩, .string ⟨#[]⟩, .bool false] 26 (0, 0))))
  case atStart => exact ⟨_, _, _, _, _, _, _, _, _, _, _, _, rfl, rfl, rfl, R8, T8, BW8, K8⟩
  case round =>
    clear R8 T8 BW8 K8
    obtain ⟨tn, ta, tc, pn, pa, pc, qn, qa, qc, P, Q, L, rfl, rfl, rfl, RL, TT, BW, KR⟩ := hrel
    by_cases h0 : (0 : Int) < (tn : Int)
    · have htn : L.length = tn := RL.out.1
      have htx : (tn : Int) ≤ 9223372036854775807 := by have h1 := RL.out.2.1; have h2 := RL.out.2.2.1; unfold maxLen at h2; omega
      have hne : L ≠ [] := by rintro rfl; simp at htn; omega
      have HNE := aside hne
      cases gk with
      | zero =>
        obtain ⟨r, hr⟩ := List.exists_mem_of_ne_nil L hne
        exact absurd (TT.out.ok r hr).few (by omega)
      | succ n =>
        have CT := aside (turn19_any pa pn pc P qa qn qc Q ta tn tc L bn fn wr TT.out.p TT.out.q RL.out TT.out.mp TT.out.mq TT.out.np TT.out.nq (fun r hr => (TT.out.ok r hr).may) TT.out.sp HOK.out.1 HOK.out.2)
        clear hne htn
        go_wp2_with fail
        refine CT.out.mono ?_
        rintro e w9 ⟨b9, ⟨r, hf, rfl⟩ | ⟨hf, na, nn, nc, rfl, hr9⟩⟩
        · have hans9 : ans = some r := by rw [← TT.out.ans]; exact twGo_bad hf
          have NW := bnew w9 (.cells #[.string r.lo, .string r.hi, .bool r.op] 26)
          have KX := blk_on (blk_on KR.out b9) NW
          have KN := heap_alloc_new w9 (.cells #[.string r.lo, .string r.hi, .bool r.op] 26)
          have BD := aside (bthen (bthen BW.out b9) NW)
          obtain ⟨y0, y1, y2⟩ := box3r KN
          have BX := aside (bel_three BD.out (Nat.le_refl _) (.string r.lo) (.string r.hi) (.bool r.op))
          obtain ⟨z0, z1, z2⟩ := box3r KX
          have f0 := frozen_of_row (w9.alloc (.cells #[.string r.lo, .string r.hi, .bool r.op] 26)) w.heap.size 0 _ _ KX
          have f1 := frozen_of_row (w9.alloc (.cells #[.string r.lo, .string r.hi, .bool r.op] 26)) w.heap.size 1 _ _ KX
          have f2 := frozen_of_row (w9.alloc (.cells #[.string r.lo, .string r.hi, .bool r.op] 26)) w.heap.size 2 _ _ KX
          obtain ⟨r0, r1, r2⟩ := box3r (set_three KX (.string r.lo) (.string r.hi) (.bool r.op))
          have HA9 := aside hans9
          clear KN KX b9 hf TT RL KR BW CT NW hans9
          go_wp2
          try simp only [Exit.inBlock, Exit.then]
          exact bodyPost_ret (v := .tuple #[.agg #[.string r.lo, .string r.hi, .bool r.op], .bool true, .int .i64 0]) (by simp [results, Tryd.results9, go_sem, r0, r1, r2]) rfl ⟨by rw [hE.out.1, hE.out.2, HA9.out]; rfl, BX.out⟩
        · have T9 := aside ((TT.out.on b9).turn HOK.out.1.1 HOK.out.2.1 HNE.out hf)
          have NW := bnew w9 (.cells #[.string ⟨#[]⟩, .string ⟨#[]⟩, .bool false] 26)
          have BX := aside (bthen (bthen BW.out b9) NW)
          have TX := aside (T9.out.on NW)
          have RX := aside (hr9.on NW)
          have KX := aside (blk_on (blk_on KR.out b9) NW)
          clear b9 hf hr9 T9 TT RL KR BW CT NW
          go_wp2
          go_roundg n
          case measure => omega
          case rel => exact ⟨_, _, _, _, _, _, _, _, _, _, _, _, rfl, rfl, rfl, RX, TX, BX, KX⟩
    · obtain rfl : tn = 0 := by omega
      obtain rfl : L = [] := List.length_eq_zero_iff.1 RL.out.1
      have hE9 := aside (show ans = none from by rw [← TT.out.ans]; exact twGo_nil _ _ _ _ _)
      obtain ⟨z0, z1, z2⟩ := box3r KR.out
      have f0 := frozen_of_row _ w.heap.size 0 _ _ KR.out
      have f1 := frozen_of_row _ w.heap.size 1 _ _ KR.out
      have f2 := frozen_of_row _ w.heap.size 2 _ _ KR.out
      obtain ⟨r0, r1, r2⟩ := box3r (set_three KR.out (.string ⟨#[]⟩) (.string ⟨#[]⟩) (.bool false))
      have BF := aside (bel_three BW.out (Nat.le_refl _) (.string ⟨#[]⟩) (.string ⟨#[]⟩) (.bool false))
      go_wp2
      try simp only [Exit.inBlock, Exit.then]
      exact bodyPost_ret (v := .tuple #[.agg #[.string ⟨#[]⟩, .string ⟨#[]⟩, .bool false], .bool false, .int .i64 0]) (by simp [results, Tryd.results9, go_sem, r0, r1, r2]) rfl ⟨by rw [hE.out.1, hE.out.2, hE9.out]; rfl, BF.out⟩
end Go.Proofs.YtfkdhambbpkmpaaDoor

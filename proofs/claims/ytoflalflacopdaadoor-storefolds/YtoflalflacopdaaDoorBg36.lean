/-
  The law StoreFolds, walked for every argument.
-/
import Derived.Test.YtoflalflacopdaaDoorBg35
import Derived.LoopIn
namespace Go.Proofs.YtoflalflacopdaaDoor
open Go.RowKit Go.Shelf
set_option linter.unusedVariables false
attribute [local go_sem] Oper.semAt_some
set_option maxHeartbeats 12800000 in
set_option maxRecDepth 100000 in
theorem lstfolds_walk (a : Option Addr) (len cap : Nat) (T : Nat → En) (r : Rg) (z : Int) (w : World) (h : EntsIn w a len cap T) (L : Lanes w) :
    Calls Tryd.prog 3 #[.slice a len cap, .agg #[.string r.lo, .string r.hi, .bool r.op], .int .i64 z] w fun e w' => e = .returned (.bool true) ∧ Below w.heap.size w w' := by
  have HE := aside h
  have B0 := aside (bthen (bnew w (.cells #[.string r.lo, .string r.hi, .bool r.op] 24)) (bnew (w.alloc (.cells #[.string r.lo, .string r.hi, .bool r.op] 24)) (.cells #[.bool false] 4)))
  have KR := aside (blk_on (heap_alloc_new w (.cells #[.string r.lo, .string r.hi, .bool r.op] 24)) (bnew (w.alloc (.cells #[.string r.lo, .string r.hi, .bool r.op] 24)) (.cells #[.bool false] 4)))
  have k1 := heap_alloc_new (w.alloc (.cells #[.string r.lo, .string r.hi, .bool r.op] 24)) (.cells #[.bool false] 4)
  rw [World.size_alloc] at k1
  have KQ := aside k1
  have LL := aside (L.keep B0.out)
  have CS := aside (shown_any _ LL.out)
  clear h L k1
  refine (callsIn_wide (n := 9)).1 ?_
  refine callsIn_of_wp_marks Tryd.func3 rfl trivial ?_ rfl
  simp only [Tryd.ntmps3, List.size_toArray, List.length_cons, List.length_nil, Nat.reduceAdd, Nat.reduceSub, Array.replicate_succ, Array.replicate_zero, List.push_toArray, List.append_toArray, List.nil_append, List.cons_append]
  gi_wp2_with fail
  refine ⟨trivial, ?_⟩
  refine (callsIn_wide.2 (CS.out)).mono ?_
  rintro e w1 ⟨rfl, b1⟩
  have BW := aside (bthen B0.out b1)
  replace KR := aside (blk_on KR.out b1)
  replace KQ := aside (blk_on KQ.out b1)
  replace LL := aside (LL.out.keep b1)
  obtain ⟨rb, hrb⟩ : ∃ rb, w.heap.size = rb := ⟨_, rfl⟩
  have HRB := aside hrb
  rw [hrb] at KR KQ ⊢
  clear b1 CS B0
  obtain ⟨qb, hqb⟩ : ∃ qb, rb + 1 = qb := ⟨_, rfl⟩
  have HQB := aside hqb
  rw [hqb] at KQ ⊢
  clear hqb
  gi_wp2_with fail
  refine ⟨trivial, ?_⟩
  refine (callsIn_wide.2 (qnew 0 w1)).mono ?_
  rintro e w2 ⟨b2, ⟨h0, -⟩ | ⟨-, sb, g, tb, rfl, st, l1, l2, l3⟩⟩
  · cases h0
  have SS := aside (show SfS w rb qb sb g tb r 0 [] w2 from ⟨st, LL.out.keep b2, bthen BW.out b2, blk_on KR.out b2, blk_on KQ.out b2, by have := BW.out.size; omega, by have := HRB.out; have := HQB.out; omega⟩)
  clear b2 st l1 l2 l3 BW KR KQ LL HRB HQB hrb
  gi_wp2_with fail
  gi_loopw [42] (fun i wr => ∃ j : Nat, i = .int .i64 (j : Int) ∧ j ≤ len ∧ Hid (SfS w rb qb sb g tb r (tkAll ⟨[], 0, 0, 0⟩ (firstE T j)).c (tkAll ⟨[], 0, 0, 0⟩ (firstE T j)).l wr)) (fun i _ => len - (intOf i).toNat)
  case atStart => exact ⟨0, rfl, Nat.zero_le _, SS⟩
  case round =>
  obtain ⟨j, rfl, hj, S1⟩ := hrel
  have OK1 := aside (tkAll_ok (s := ⟨[], 0, 0, 0⟩) ⟨MapL.nil, by simp⟩ T j)
  by_cases hlt : (j : Int) < (len : Int)
  · as_aux_lemma =>
    have hj0 : (0 : Int) ≤ (j : Int) := by omega
    have hwr : IntKind.i64.wrap ((j : Int) + 1) = (((j + 1 : Nat)) : Int) := by rw [IntKind.wrap_i64]; have h1 := HE.out.1; have h2 := HE.out.2.1; unfold maxLen at h2; omega
    have eA := HE.out.keep S1.out.bel
    rcases eA.2.2 with h0 | ⟨ba, oa, rfl, -, -⟩
    · omega
    obtain ⟨x, hx⟩ : ∃ x, T j = x := ⟨_, rfl⟩
    have HX := aside hx
    obtain ⟨c0, c1, c2, c3, c4⟩ := ents_five eA (by omega) hx
    have E5 := aside (heap_alloc_new wr (.cells #[.string x.k, .int .i64 x.c, .int .i64 x.n, .string x.v, .bool x.d] 33))
    obtain ⟨e0, e1, e2, e3, e4, -⟩ := penta E5.out
    have S2 := aside (S1.out.on (bnew wr (.cells #[.string x.k, .int .i64 x.c, .int .i64 x.n, .string x.v, .bool x.d] 33)))
    clear eA hx
    gi_wp2_with fail
    refine ⟨trivial, ?_⟩
    refine (callsIn_wide.2 (sf_take x S2.out OK1.out.2)).mono ?_
    rintro e w3 ⟨v, rfl, s3, -⟩
    have S3 := aside s3
    clear s3 c0 c1 c2 c3 c4 e0 e1 e2 e3 e4 E5 S1 S2
    gi_wp2
    go_roundw
    case rel => exact ⟨j + 1, by go_num, by omega, aside (by rw [tkAll_succ, HX.out]; exact S3.out)⟩
    case measure => simp [intOf]; omega
  · have hjl : j = len := by omega
    subst hjl
    clear hj hlt SS
    obtain ⟨Ls, hLs⟩ : ∃ Ls, (tkAll ⟨[], 0, 0, 0⟩ (firstE T j)).l = Ls := ⟨_, rfl⟩
    obtain ⟨ck, hck⟩ : ∃ ck, (tkAll ⟨[], 0, 0, 0⟩ (firstE T j)).c = ck := ⟨_, rfl⟩
    rw [hLs] at S1 OK1
    rw [hck] at S1
    clear hLs hck HE
    obtain ⟨r0, r1, r2⟩ := box3r S1.out.kr
    gi_wp2_with fail
    refine ⟨trivial, ?_⟩
    refine (callsIn_wide.2 (qfold r.lo r.hi r.op S1.out.s S1.out.lan (by have := OK1.out.2; omega))).mono ?_
    rintro e w4 ⟨rfl, s4, k4, l4⟩
    obtain ⟨Ft, hFt⟩ : ∃ Ft, foldV r.lo r.hi r.op Ls = Ft := ⟨_, rfl⟩
    have HFT := aside hFt
    rw [hFt, show (⟨r.lo, r.hi, r.op⟩ : Rg) = r from rfl]
    have NB := bnew w4 (.cells #[.int .i64 Ft.n, .int .u64 Ft.a, .int .u64 Ft.b] 40)
    have S2 := aside ((S1.out.turn s4 k4).on NB)
    have KT := aside (heap_alloc_new w4 (.cells #[.int .i64 Ft.n, .int .u64 Ft.a, .int .u64 Ft.b] 40))
    obtain ⟨kt, hkt⟩ : ∃ kt, w4.heap.size = kt := ⟨_, rfl⟩
    rw [hkt] at KT
    have HKT := aside (show w.heap.size ≤ kt from by have h1 := S1.out.bel.size; have h2 := k4.size; omega)
    obtain ⟨w5, hw5⟩ : ∃ w5, w4.alloc (.cells #[.int .i64 Ft.n, .int .u64 Ft.a, .int .u64 Ft.b] 40) = w5 := ⟨_, rfl⟩
    rw [hw5] at S2 KT
    clear s4 k4 l4 NB S1 hFt r0 r1 r2
    obtain ⟨r0, r1, r2⟩ := box3r S2.out.kr
    gi_wp2_with fail
    refine ⟨trivial, ?_⟩
    refine (callsIn_wide.2 (qall r.lo r.hi r.op S2.out.s (by have := OK1.out.2; omega))).mono ?_
    rintro e w6 ⟨b6, hall⟩
    clear hkt hw5 r0 r1 r2
    rw [show (⟨r.lo, r.hi, r.op⟩ : Rg) = r from rfl] at hall
    replace S2 := aside (S2.out.on b6)
    have HW6 := aside S2.out.bel.size
    replace KT := aside (blk_on KT.out b6)
    obtain ⟨r0, r1, r2⟩ := box3r S2.out.kr
    obtain ⟨k0, k1, k2⟩ := box3r KT.out
    rcases hall with ⟨hc, rfl⟩ | ⟨hc, lb, rfl, hs⟩
    · as_aux_lemma =>
      have hcc : (r.chk == 0) = false := by simpa using hc
      clear b6
      gi_wp2_with fail
      refine ⟨trivial, ?_⟩
      refine (callsIn_wide.2 (qsplit_chk r z S2.out.s OK1.out.2 hc)).mono ?_
      rintro e w7 ⟨rfl, b7⟩
      replace S2 := aside (S2.out.on b7)
      clear b7 r0 r1 r2 k0 k1 k2
      obtain ⟨r0, r1, r2⟩ := box3r S2.out.kr
      gi_wp2_with fail
      refine ⟨trivial, ?_⟩
      refine (callsIn_wide.2 (check_any r.lo r.hi r.op w7)).mono ?_
      rintro e w8 ⟨rfl, b8⟩
      rw [show (⟨r.lo, r.hi, r.op⟩ : Rg) = r from rfl]
      replace S2 := aside (S2.out.on b8)
      clear b8 r0 r1 r2
      have c0 := cell_one S2.out.kq
      have z0 := frozen_one S2.out.kq
      have TS := aside (show (w8.setCell ⟨qb, 0, none⟩ (.bool true)).heap[qb]? = some (.cells #[.bool true] 4 (0, 0)) from by rw [heap_setCell_same w8 qb 0 _ _ (.bool true) S2.out.kq]; rfl)
      have TB := aside (S2.out.bel.setCell (p := ⟨qb, 0, none⟩) (by show w.heap.size ≤ qb; exact S2.out.lq) (.bool true))
      gi_wp2
      have d0 := cell_one TS.out
      exact ⟨.bool true, by simp [results, Tryd.f3, go_sem, d0], rfl, TB.out⟩
    have HC := aside hc
    have HFN := aside (show Ft.n = ((keysIn r Ls).length : Int) from by rw [← HFT.out]; exact fold_n hc (by have := OK1.out.2; omega))
    by_cases hz : ¬ (1 ≤ z ∧ z ≤ ((keysIn r Ls).length : Int))
    · as_aux_lemma =>
      clear hs
      gi_wp2_with fail
      refine ⟨trivial, ?_⟩
      refine (callsIn_wide.2 (qsplit_arg r z S2.out.s OK1.out.1 OK1.out.2 hc hz)).mono ?_
      rintro e w7 ⟨rfl, b7⟩
      replace S2 := aside (S2.out.on b7)
      replace KT := aside (blk_on KT.out b7)
      clear b7 r0 r1 r2 k0 k1 k2 b6
      obtain ⟨r0, r1, r2⟩ := box3r S2.out.kr
      gi_wp2_with fail
      refine ⟨trivial, ?_⟩
      refine (callsIn_wide.2 (check_any r.lo r.hi r.op w7)).mono ?_
      rintro e w8 ⟨rfl, b8⟩
      rw [show (⟨r.lo, r.hi, r.op⟩ : Rg) = r from rfl, hc]
      replace S2 := aside (S2.out.on b8)
      replace KT := aside (blk_on KT.out b8)
      clear b8 r0 r1 r2
      obtain ⟨k0, k1, k2⟩ := box3r KT.out
      by_cases hz1 : z < 1
      · clear hz hc
        have c0 := cell_one S2.out.kq
        have z0 := frozen_one S2.out.kq
        have TS := aside (show (w8.setCell ⟨qb, 0, none⟩ (.bool true)).heap[qb]? = some (.cells #[.bool true] 4 (0, 0)) from by rw [heap_setCell_same w8 qb 0 _ _ (.bool true) S2.out.kq]; rfl)
        have TB := aside (S2.out.bel.setCell (p := ⟨qb, 0, none⟩) (by show w.heap.size ≤ qb; exact S2.out.lq) (.bool true))
        gi_wp2
        have d0 := cell_one TS.out
        exact ⟨.bool true, by simp [results, Tryd.f3, go_sem, d0], rfl, TB.out⟩
      · have hz2 : Ft.n < z := by rw [HFN.out]; omega
        clear hz hc
        have c0 := cell_one S2.out.kq
        have z0 := frozen_one S2.out.kq
        have TS := aside (show (w8.setCell ⟨qb, 0, none⟩ (.bool true)).heap[qb]? = some (.cells #[.bool true] 4 (0, 0)) from by rw [heap_setCell_same w8 qb 0 _ _ (.bool true) S2.out.kq]; rfl)
        have TB := aside (S2.out.bel.setCell (p := ⟨qb, 0, none⟩) (by show w.heap.size ≤ qb; exact S2.out.lq) (.bool true))
        gi_wp2
        have d0 := cell_one TS.out
        exact ⟨.bool true, by simp [results, Tryd.f3, go_sem, d0], rfl, TB.out⟩
    obtain ⟨q, hq⟩ : ∃ q : Nat, z = (q : Int) + 1 := ⟨(z - 1).toNat, by omega⟩
    have hqn : q + 1 ≤ (keysIn r Ls).length := by omega
    have HQN := aside hqn
    have HS := aside hs
    subst hq
    clear hz hqn hs
    gi_wp2_with fail
    refine ⟨trivial, ?_⟩
    refine (callsIn_wide.2 (qsplit_ok r q S2.out.s OK1.out.1 OK1.out.2 HC.out HQN.out)).mono ?_
    rintro e w7 ⟨gp, cp, rfl, op, b7⟩
    replace S2 := aside (S2.out.on b7)
    replace KT := aside (blk_on KT.out b7)
    replace HS := aside (HS.out.below b7)
    have HP7 := aside (own_low op (show w.heap.size ≤ w6.heap.size from HW6.out))
    clear b7 op r0 r1 r2 k0 k1 k2 b6 hc
    obtain ⟨r0, r1, r2⟩ := box3r S2.out.kr
    gi_wp2_with fail
    refine ⟨trivial, ?_⟩
    refine (callsIn_wide.2 (check_any r.lo r.hi r.op w7)).mono ?_
    rintro e w8 ⟨rfl, b8⟩
    rw [show (⟨r.lo, r.hi, r.op⟩ : Rg) = r from rfl, HC.out]
    replace S2 := aside (S2.out.on b8)
    replace KT := aside (blk_on KT.out b8)
    replace HS := aside (HS.out.below b8)
    replace HP7 := aside (own_on HP7.out b8)
    clear b8 r0 r1 r2
    obtain ⟨k0, k1, k2⟩ := box3r KT.out
    obtain ⟨r0, r1, r2⟩ := box3r S2.out.kr
    have hz1 : ¬ (q : Int) + 1 < 1 := by omega
    have hz2 : ¬ Ft.n < (q : Int) + 1 := by rw [HFN.out]; have := HQN.out; omega
    have hq1 : (((q + 1 : Nat) : Int) == (q : Int) + 1) = true := by simp
    have CT := aside (show Calls Tryd.prog 12 #[.slice (some ⟨gp, 0, none⟩) (q + 1) cp, .agg #[.string r.lo, .string r.hi, .bool r.op]] w8 (fun e w' => e = .returned (.bool true) ∧ Below w8.heap.size w8 w') from by
      have h7 := tile_any (some ⟨gp, 0, none⟩) (q + 1) cp (cutR r Ls q) r.lo r.hi r.op w8 (rgs_of_row HP7.out (HP7.out.lt gp rfl).2 (by have h1 := HQN.out; have h2 := keysIn_le r Ls; have h3 := OK1.out.2; omega))
      rw [show tiles (cutR r Ls q) (q + 1) ⟨r.lo, r.hi, r.op⟩ = true from cut_tiles OK1.out.1 HC.out HQN.out] at h7
      exact h7)
    gi_wp2_with fail
    refine ⟨trivial, ?_⟩
    refine (callsIn_wide.2 (CT.out)).mono ?_
    rintro e w9 ⟨rfl, b9⟩
    replace S2 := aside (S2.out.on b9)
    replace KT := aside (blk_on KT.out b9)
    replace HS := aside (HS.out.below b9)
    replace HP7 := aside (own_on HP7.out b9)
    clear b9 r0 r1 r2 k0 k1 k2 hz1 hz2 hq1 CT
    have b10 := bnew w9 (.cells #[.slice none 0 0] 22)
    have BV := aside b10
    have I0 := aside (show LstE w9.heap.size w9.heap.size [] (w9.alloc (.cells #[.slice none 0 0] 22)) from ⟨.slice none 0 0, heap_alloc_new w9 _, ⟨rfl, .inl ⟨rfl, rfl⟩⟩⟩)
    obtain ⟨N, hN, hNl, hSq⟩ := HS.out
    have SQ := aside hSq
    have HNN := aside hN
    clear b10 hN hNl hSq HS
    gi_wp2_with fail
    obtain ⟨ob, hob⟩ : ∃ ob, w9.heap.size = ob := ⟨_, rfl⟩
    have HOB := aside hob
    obtain ⟨V, hV⟩ : ∃ V, w9.alloc (.cells #[.slice none 0 0] 22) = V := ⟨_, rfl⟩
    rw [hV] at I0 BV ⊢
    rw [hob]
    have I1 := aside (show LstE w9.heap.size ob [] V from by have h := I0.out; rwa [show LstE w9.heap.size w9.heap.size [] V = LstE w9.heap.size ob [] V from by rw [hob]] at h)
    clear hV I0 hob
    have HVV := aside (show w9.heap.size ≤ V.heap.size from BV.out.size)
    have HVB := aside (show w9.heap.size ≤ ob from Nat.le_of_eq HOB.out)
    have ownI : OwnFrom V.heap.size (fun (pre : List En) X => LstE w9.heap.size ob pre X ∧ Below w9.heap.size w9 X) := fun s A Y row hs hg hr =>
      ⟨hs.1.own hg (fun r e => (hr r e).2), ownFrom_below (β := Unit) (Nat.le_refl w9.heap.size) HVV.out () A Y row hs.2 hg hr⟩
    refine rangeO rfl (enters_of Tryd.func70 (by kernel_rfl) rfl) SQ.out KpT.t (fun W l o o' _ h ho => KpT.b W l o o' h ho) BV.out (fun _ => rfl)
      (fun (pre : List En) X => LstE w9.heap.size ob pre X ∧ Below w9.heap.size w9 X) (fun _ _ _ => False) ownI (fun _ _ _ _ _ h => h.elim) ⟨I1.out, BV.out⟩
      (fun x a' X => a'.defers = [] ∧ a'.tmps.size = 213 ∧ a'.tmps[17]? = some (.pointer (some ⟨ob, 0, none⟩)) ∧ ∃ eb : Nat, a'.tmps[18]? = some (.pointer (some ⟨eb, 0, none⟩)) ∧ X.heap[eb]? = some (.cells #[.string x.k, .int .i64 x.c, .int .i64 x.n, .string x.v, .bool x.d] 33 (0, 0)))
      (fun x a' _ A Y row hs hg hr => by
        obtain ⟨h1, h2, h3, eb, h4, h5⟩ := hs
        exact ⟨h1, h2, h3, eb, h4, cells_own h5 hg (fun r e => (hr r e).2)⟩) ?assign ?body ?done ?stop
    case assign =>
      intro l' pre x X K hi hK
      dsimp only [encE]
      gi_wp2
      refine hK _ _ ?_ ?_ ?_ ⟨rfl, rfl, rfl, _, rfl, heap_alloc_new X _⟩
      · exact KeepsFrom.of_grownBy (World.grownBy_alloc X _ none) (fun j e => by cases e)
      · exact (KpT.refl X).alloc _
      · exact ownI.alloc _ hi
    case body =>
      rintro l' pre x a' X ⟨hls, hbx⟩ ⟨hdf, hsz, h17, eb, h18, he⟩ hlen
      obtain ⟨tm, df⟩ := a'
      obtain ⟨f, hf⟩ := lit213 tm hsz
      dsimp only at hdf h17 h18
      subst hf hdf
      have e17 : f 17 = .pointer (some ⟨ob, 0, none⟩) := Option.some.inj h17
      have e18 : f 18 = .pointer (some ⟨eb, 0, none⟩) := Option.some.inj h18
      rw [e17, e18]
      clear h17 h18 hsz e17 e18
      obtain ⟨v, hv, ho⟩ := hls.ex
      obtain ⟨i0, hi0, hz0, hz1, hz2⟩ := info_parts infoEnt
      obtain ⟨e0, e1, e2, e3, e4, -⟩ := penta he
      have v0 := cell_one hv
      have HV := aside hv
      have HO := aside ho
      have HB := aside hbx
      have HLN := aside (show pre.length ≤ 1000000 from by have := HNN.out; omega)
      have HI := aside hi0
      clear hls hv ho hbx he hlen hi0
      gi_wp2_with (gi_at_builtin; go_loud (refine wpListIn_append_own _ rfl _ _ _ rfl w9.heap.size 33 i0 (.agg #[.string ⟨#[]⟩, .int .i64 0, .int .i64 0, .string ⟨#[]⟩, .bool false]) 5 56 Tryd.underlying22 HI.out hz0 hz1 hz2 rfl (by decide) v pre.length (entCells pre) (by rfl) (HO.out.alloc _) ⟨X.heap.size, 0, none⟩ 1 1 (entVals x) (by rfl) (by rfl) (World.news_of_block (cs := #[.string x.k, .int .i64 x.c, .int .i64 x.n, .string x.v, .bool x.d]) (t := 33) (fr := (0, 0)) (heap_alloc_new X _)) (by intro u hu; exact entCells_one [x] u (by simpa [entCells] using hu)) (by have := HLN.out; unfold maxLen; omega) (by have := HLN.out; omega) (by have := HB.out.size; simp; omega) ?_); intro v' X1 hown1 hgrow hiff; refine Hid.out ?_)
      refine aside ?_
      obtain ⟨g', cap', rfl⟩ : ∃ g' cap', v' = .slice (some ⟨g', 0, none⟩) (pre.length + 1) cap' := by
        rcases hown1.2 with ⟨_, h⟩ | ⟨g', cap', cur, e, _⟩
        · omega
        · exact ⟨g', cap', e⟩
      have ST := aside (lst_step (x := x) (C := V.heap.size) HB.out HVB.out HV.out HO.out hown1 hgrow)
      have v1 := cell_one ST.out.1
      have z1 := frozen_one ST.out.1
      clear hown1 hgrow hiff v0 e0 e1 e2 e3 e4
      gi_wp2
      exact ⟨ST.out.2.2.2.1, ST.out.2.2.2.2, ST.out.2.1, ST.out.2.2.1⟩
    case stop =>
      rintro D c pre X hD _ h
      exact h.elim
    case done =>
      rintro D xs X hD hxs ⟨hls, hbx⟩ hK
      rw [inL_thruS HC.out OK1.out.1] at hxs
      obtain ⟨own, hown⟩ : ∃ own, inL r Ls = own := ⟨_, rfl⟩
      have HOWN := aside hown
      rw [hown] at hxs
      subst hxs
      have MOW := aside (show MapL xs ∧ xs.length ≤ 256 ∧ xs.length = (keysIn r Ls).length from by
        rw [← HOWN.out]
        exact ⟨mapL_sub OK1.out.1 List.filter_sublist, Nat.le_trans (inL_len r Ls) OK1.out.2, by rw [keysIn_map OK1.out.1 HC.out, List.length_map]⟩)
      obtain ⟨v, hv, ho⟩ := hls.ex
      obtain ⟨oa, oc, rfl, eo⟩ := own_ents ho (fun e he => key_small (MOW.out.1.chk e he))
      have KO := aside hv
      have OO := aside (own_low ho S2.out.bel.size)
      have EO := aside eo
      replace KT := aside (blk_on KT.out hbx)
      replace HP7 := aside (own_on HP7.out hbx)
      have S3 := aside (S2.out.on hbx)
      have HMK := aside (show V.heap.size ≤ D ∧ X.heap[D]? = some (.deferred (some [])) from ⟨hD, hK⟩)
      have HWD := aside (show w.heap.size ≤ D from Nat.le_trans (Nat.le_trans S2.out.bel.size HVV.out) hD)
      have HOB2 := aside (show w.heap.size ≤ ob from Nat.le_trans S2.out.bel.size HVB.out)
      clear hv ho eo hls hbx hD hK hown ownI I1 SQ S2 BV
      have hTF : talL xs = Ft := by
        rw [← HOWN.out, ← HFT.out, ← inL_thruS HC.out OK1.out.1, thru_true]
        unfold foldV
        rw [if_pos HC.out]
      have CA := aside (fun (W : World) (b : Below X.heap.size X W) => tall_any oa xs.length oc (nthE xs) W (S3.out.lan.keep b) (EO.out.keep b))
      rw [talT_tl xs (by have := MOW.out.2.1; omega), hTF] at CA
      unfold tlV at CA
      have hNE := tal_ne_same Ft.n Ft.a Ft.b
      have hln : ((xs.length : Int) == Ft.n) = true := by rw [HFN.out, MOW.out.2.2]; simp
      have HLX := aside (show (xs.length : Int) = Ft.n from by rw [HFN.out, MOW.out.2.2])
      have SX := aside (fun (W : World) (b : Below X.heap.size X W) => (show (fun W => W.cell? ⟨ob, 0, none⟩ = some (.slice oa xs.length oc) ∧ (W.cell? ⟨kt, 0, none⟩ = some (.int .i64 Ft.n) ∧ W.cell? ⟨kt, 1, none⟩ = some (.int .u64 Ft.a) ∧ W.cell? ⟨kt, 2, none⟩ = some (.int .u64 Ft.b)) ∧ Below X.heap.size X W) W from ⟨cell_one (blk_on KO.out b), box3r (blk_on KT.out b), b⟩))
      clear hTF
      gi_wp2_with fail
      refine wpIn_wide.2 (wp_calm ?_)
      refine wp_region_held_drew (S := fun W => W.cell? ⟨ob, 0, none⟩ = some (.slice oa xs.length oc) ∧ (W.cell? ⟨kt, 0, none⟩ = some (.int .i64 Ft.n) ∧ W.cell? ⟨kt, 1, none⟩ = some (.int .u64 Ft.a) ∧ W.cell? ⟨kt, 2, none⟩ = some (.int .u64 Ft.b)) ∧ Below X.heap.size X W) (by kernel_rfl) (SX.out _ (Below.refl _ X).drew) (fun hHeld => ?_)
      refine wpAnyH_take (i := 0) (v := ?_) rfl (by kernel_rfl) (by kernel_rfl) (by kernel_rfl) (fun _ _ _ h => h) (Or.inl ⟨by rfl, ?_⟩) (by assumption) ?_
      rotate_left
      · intro w hSw
        go_simp
        try with_reducible rfl
      simp only [Act.put, List.getElem_toArray, List.getElem_cons_zero, List.setIfInBounds_toArray, List.set_cons_zero, List.set_cons_succ]
      refine wpAnyH_take (i := 1) (v := ?_) rfl (by kernel_rfl) (by kernel_rfl) (by kernel_rfl) (fun _ _ _ h => h) (Or.inl ⟨by rfl, ?_⟩) (by assumption) ?_
      rotate_left
      · intro w hSw
        go_simp
        try with_reducible rfl
      simp only [Act.put, List.getElem_toArray, List.getElem_cons_zero, List.getElem_cons_succ, List.setIfInBounds_toArray, List.set_cons_zero, List.set_cons_succ]
      refine wpAnyH_take (i := 2) (v := ?_) rfl (by kernel_rfl) (by kernel_rfl) (by kernel_rfl) (fun _ _ _ h => h) (Or.inl ⟨by rfl, ?_⟩) (by assumption) ?_
      rotate_left
      · intro w hSw
        go_simp
        try with_reducible rfl
      simp only [Act.put, List.getElem_toArray, List.getElem_cons_zero, List.getElem_cons_succ, List.setIfInBounds_toArray, List.set_cons_zero, List.set_cons_succ]
      refine wpAnyH_take (i := 3) (v := ?_) rfl (by kernel_rfl) (by kernel_rfl) (by kernel_rfl) (fun _ _ _ h => h) (Or.inl ⟨by rfl, ?_⟩) (by assumption) ?_
      rotate_left
      · intro w hSw
        go_simp
        try with_reducible rfl
      simp only [Act.put, List.getElem_toArray, List.getElem_cons_zero, List.getElem_cons_succ, List.setIfInBounds_toArray, List.set_cons_zero, List.set_cons_succ]
      refine wpAnyH_take (i := 4) (v := .bool false) rfl (by kernel_rfl) (by kernel_rfl) (by kernel_rfl) (fun _ _ _ h => h) (Or.inl ⟨by rfl, ?_⟩) (by assumption) ?_
      · intro w hSw
        go_simp
        all_goals exact HLX.out
      simp only [Act.put, List.getElem_toArray, List.getElem_cons_zero, List.getElem_cons_succ, List.setIfInBounds_toArray, List.set_cons_zero, List.set_cons_succ]
      refine wpAnyH_take (i := 5) (v := ?_) rfl (by kernel_rfl) (by kernel_rfl) (by kernel_rfl) (fun _ _ _ h => h) (Or.inl ⟨by rfl, ?_⟩) (by assumption) ?_
      rotate_left
      · intro w hSw
        go_simp
        try with_reducible rfl
      simp only [Act.put, List.getElem_toArray, List.getElem_cons_zero, List.getElem_cons_succ, List.setIfInBounds_toArray, List.set_cons_zero, List.set_cons_succ]
      refine wpAnyH_take (i := 6) (v := ?_) rfl (by kernel_rfl) (by kernel_rfl) (by kernel_rfl) (fun _ _ _ h => h) (Or.inl ⟨by rfl, ?_⟩) (by assumption) ?_
      rotate_left
      · intro w hSw
        go_simp
        try with_reducible rfl
      simp only [Act.put, List.getElem_toArray, List.getElem_cons_zero, List.getElem_cons_succ, List.setIfInBounds_toArray, List.set_cons_zero, List.set_cons_succ]
      refine wpAnyH_take (i := 8) (v := ?_) rfl (by kernel_rfl) (by kernel_rfl) (by kernel_rfl) (fun _ _ _ h => h) (Or.inl ⟨by rfl, ?_⟩) (by assumption) ?_
      rotate_left
      · intro w hSw
        go_simp
        try with_reducible rfl
      simp only [Act.put, List.getElem_toArray, List.getElem_cons_zero, List.getElem_cons_succ, List.setIfInBounds_toArray, List.set_cons_zero, List.set_cons_succ]
      refine wpAnyH_ready (rs := [7]) (by kernel_rfl) (by simp) ?_
      refine AllReadyH.cons rfl (fun K hK => ?_) AllReadyH.nil
      go_simp
      refine (CA.out _ hHeld.2.2).mono ?_
      rintro e w10 ⟨rfl, bb⟩
      refine hK.out _ _ (SX.out _ (bthen hHeld.2.2 bb)) (fun hHeld => ?_)
      clear hK K bb
      refine wpAnyH_take (i := 9) (v := .bool false) rfl (by kernel_rfl) (by kernel_rfl) (by kernel_rfl) (fun _ _ _ h => h) (Or.inl ⟨by rfl, ?_⟩) (by assumption) ?_
      · intro w hSw
        go_simp
      simp only [Act.put, List.getElem_toArray, List.getElem_cons_zero, List.getElem_cons_succ, List.setIfInBounds_toArray, List.set_cons_zero, List.set_cons_succ]
      refine wpAnyH_take (i := 10) (v := ?_) rfl (by kernel_rfl) (by kernel_rfl) (by kernel_rfl) (fun _ _ _ h => h) (Or.inl ⟨by rfl, ?_⟩) (by assumption) ?_
      rotate_left
      · intro w hSw
        go_simp
        try with_reducible rfl
      simp only [Act.put, List.getElem_toArray, List.getElem_cons_zero, List.getElem_cons_succ, List.setIfInBounds_toArray, List.set_cons_zero, List.set_cons_succ]
      refine wpAnyH_done (by kernel_rfl) ?_ _
      have BX := hHeld.2.2
      replace S3 := aside (S3.out.on BX)
      replace KT := aside (blk_on KT.out BX)
      replace HP7 := aside (own_on HP7.out BX)
      replace KO := aside (blk_on KO.out BX)
      replace OO := aside (own_on OO.out BX)
      replace EO := aside (EO.out.keep BX)
      replace HMK := aside (show V.heap.size ≤ D ∧ w10.heap[D]? = some (.deferred (some [])) from ⟨HMK.out.1, blk_on HMK.out.2 BX⟩)
      clear hHeld BX SX CA hNE hln
      have NB := aside (bthen (bnew w10 (.cells #[.int .i64 0, .int .u64 0, .int .u64 0] 40)) (bnew (w10.alloc (.cells #[.int .i64 0, .int .u64 0, .int .u64 0] 40)) (.cells #[.int .i64 0] 3)))
      have kS := blk_on (heap_alloc_new w10 (.cells #[.int .i64 0, .int .u64 0, .int .u64 0] 40)) (bnew (w10.alloc (.cells #[.int .i64 0, .int .u64 0, .int .u64 0] 40)) (.cells #[.int .i64 0] 3))
      have kA := heap_alloc_new (w10.alloc (.cells #[.int .i64 0, .int .u64 0, .int .u64 0] 40)) (.cells #[.int .i64 0] 3)
      rw [World.size_alloc] at kA
      have KS := aside kS
      have KA := aside kA
      have HSZ := aside (show w.heap.size ≤ w10.heap.size from S3.out.bel.size)
      have HKL := aside (show kt < w10.heap.size from lt_of_blk KT.out)
      clear kS kA
      gi_wp2_with fail
      obtain ⟨smb, hsm⟩ : ∃ smb, w10.heap.size = smb := ⟨_, rfl⟩
      have HSM := aside hsm
      obtain ⟨atb, hat⟩ : ∃ atb, smb + 1 = atb := ⟨_, rfl⟩
      have HAT := aside hat
      rw [hsm] at KS KA HKL HSZ ⊢
      rw [hat] at KA ⊢
      obtain ⟨V0, hV0⟩ : ∃ V0, (w10.alloc (.cells #[.int .i64 0, .int .u64 0, .int .u64 0] 40)).alloc (.cells #[.int .i64 0] 3) = V0 := ⟨_, rfl⟩
      rw [hV0] at KS KA NB ⊢
      have L0 := aside (show SfL w rb qb sb g tb r ck Ls kt ob smb atb Ft (sumQ r Ls q 0) (atS r Ls q 0) (.slice (some ⟨gp, 0, none⟩) (q + 1) cp) (q + 1) (rgCells (cutR r Ls q) (q + 1)) oa oc xs [D] V0 from ⟨S3.out.on NB.out, blk_on KT.out NB.out, own_on HP7.out NB.out, blk_on KO.out NB.out, own_on OO.out NB.out, by rw [sumQ_zero]; exact KS.out, by rw [atS_zero]; exact KA.out, by have := HKL.out; omega, by have h1 := HSZ.out; have h2 := HAT.out; omega, fun d hd => by rw [List.mem_singleton] at hd; subst hd; exact ⟨HWD.out, blk_on HMK.out.2 NB.out⟩, by simp⟩)
      clear hsm hat hV0 NB KS KA HKL S3 KT HP7 KO OO EO HMK HSM HAT HSZ HVV
      refine wpIn_loop (fun a' X => SfI w rb qb sb g tb r ck Ls q gp cp kt ob smb atb Ft oa oc xs a' X) (fun a' _ => q + 2 - a'.defers.length) ⟨0, [D], Nat.zero_le _, rfl, ⟨rfl, rfl, rfl, rfl, rfl, rfl, rfl, rfl, rfl, rfl, rfl⟩, rfl, L0.out⟩ ?_
      clear L0 HWD
      rintro a' X0 ⟨j, Ds, hj, hds, hsl, hdf, hL⟩
      by_cases hlt : j < q + 1
      · exact sf_round (by rfl) OK1.out.1 OK1.out.2 HC.out HQN.out HOWN.out MOW.out HFN.out hlt hds hsl hdf hL
      · obtain rfl : j = q + 1 := by omega
        obtain ⟨tm, df⟩ := a'
        obtain ⟨f, hf⟩ := lit213 tm hsl.sz
        obtain ⟨-, h2, h6, h7, h11, h17, h19, h20, h134, h135, h136⟩ := hsl
        dsimp only at hdf h2 h6 h7 h11 h17 h19 h20 h134 h135 h136
        subst hf hdf
        rw [show f 2 = _ from Option.some.inj h2, show f 6 = _ from Option.some.inj h6, show f 7 = _ from Option.some.inj h7, show f 11 = _ from Option.some.inj h11, show f 17 = _ from Option.some.inj h17, show f 19 = _ from Option.some.inj h19, show f 20 = _ from Option.some.inj h20, show f 134 = _ from Option.some.inj h134, show f 135 = _ from Option.some.inj h135, show f 136 = _ from Option.some.inj h136]
        clear h2 h6 h7 h11 h17 h19 h20 h134 h135 h136 hds hj hlt
        rw [show atS r Ls q (q + 1) = xs.length from by rw [atS_end]; exact MOW.out.2.2.symm, show sumQ r Ls q (q + 1) = Ft from (sumQ_end OK1.out.1 HC.out q).trans HFT.out] at hL
        have L1 := aside hL
        have hjl : ¬ (((q + 1 : Nat)) : Int) < (q : Int) + 1 := by omega
        have a0 := cell_one hL.ba
        have o0 := cell_one hL.bo
        obtain ⟨s0, s1, s2⟩ := box3r hL.bs
        obtain ⟨k0, k1, k2⟩ := box3r hL.bt
        have c0 := cell_one hL.s.kq
        have z0 := frozen_one hL.s.kq
        have hT := tal_same Ft.n Ft.a Ft.b
        have TS := aside (show (X0.setCell ⟨qb, 0, none⟩ (.bool true)).heap[qb]? = some (.cells #[.bool true] 4 (0, 0)) from by rw [heap_setCell_same X0 qb 0 _ _ (.bool true) hL.s.kq]; rfl)
        have TB := aside (hL.s.bel.setCell (p := ⟨qb, 0, none⟩) (by show w.heap.size ≤ qb; exact hL.s.lq) (.bool true))
        have TM := aside (show ∀ D ∈ Ds, w.heap.size ≤ D ∧ (X0.setCell ⟨qb, 0, none⟩ (.bool true)).heap[D]? = some (.deferred (some [])) from fun D hD => ⟨(hL.ds D hD).1, (heap_setCell_other _ _ _ _ (fun e => mark_not (hL.ds D hD).2 hL.s.kq e)).trans (hL.ds D hD).2⟩)
        have TN := aside hL.nd
        clear hL
        gi_wp2
        refine leaves_marks Ds _ (fun D hD => (TM.out D hD).2) TN.out ?_
        have d0 := cell_one ((shut_other Ds _ (fun D hD => mark_not (TM.out D hD).2 TS.out)).trans TS.out)
        refine ⟨.bool true, by simp [results, Tryd.f3, go_sem, d0], rfl, ?_⟩
        exact (shut_keeps (S := fun _ => False) Ds _ (Keeps.of_below TB.out _) (fun D hD => ⟨(TM.out D hD).1, _, (TM.out D hD).2, rfl⟩)).below (Nat.le_refl _) (fun _ _ h => h)
end Go.Proofs.YtoflalflacopdaaDoor

/-
  Max, the code's.
-/
import Derived.Test.YtpbkjffiohfkcaaGreatDoorBs21
import Derived.Test.YtpbkjffiohfkcaaGreatDoorBs19
import Derived.Test.YtpbkjffiohfkcaaGreatDoorBs1
import Derived.Test.YtpbkjffiohfkcaaGreatDoorBs27
import Derived.Test.YtpbkjffiohfkcaaGreatDoorBs36
import Derived.Test.YtpbkjffiohfkcaaGreatDoorBs24
import Derived.Deep.RegionHeld
import Derived.Deep.CutBlock
import Derived.Deep.DeepCutAuto
namespace Go.Proofs.YtpbkjffiohfkcaaGreatDoor
open Go.RowKit Go.Shelf
set_option linter.unusedVariables false
attribute [local go_sem] Oper.semAt_some
end Go.Proofs.YtpbkjffiohfkcaaGreatDoor
namespace Go.Proofs.YtpbkjffiohfkcaaGreatDoor
open Go.RowKit
set_option linter.unusedVariables false
theorem pr_two {a b : List En} (ha : MapL a) (hb : MapL b) {p : En × En} (h : p ∈ prs a b) : (1 ≤ p.1.c ∧ 1 ≤ p.2.c ∧ 0 ≤ p.1.n ∧ 0 ≤ p.2.n ∧ p.1.k = p.2.k) ∨ (1 ≤ p.1.c ∧ 0 ≤ p.1.n ∧ p.2 = eZ) ∨ (p.1 = eZ ∧ 1 ≤ p.2.c ∧ 0 ≤ p.2.n) := by
 rcases (mem_prs a b ha.rises hb.rises p).1 h with ⟨h1, h2, h3⟩ | ⟨h1, h2, h3⟩ | ⟨h1, h2, h3⟩
 ·exact .inl ⟨(ha.pos h1).1, (hb.pos h2).1, (ha.pos h1).2, (hb.pos h2).2, h3⟩
 ·exact .inr (.inl ⟨(ha.pos h1).1, (ha.pos h1).2, h2⟩)
 ·exact .inr (.inr ⟨h1, (hb.pos h2).1, (hb.pos h2).2⟩)
theorem pr_none {x y : En} (h : (1 ≤ x.c ∧ 1 ≤ y.c ∧ 0 ≤ x.n ∧ 0 ≤ y.n ∧ x.k = y.k) ∨ (1 ≤ x.c ∧ 0 ≤ x.n ∧ y = eZ) ∨ (x = eZ ∧ 1 ≤ y.c ∧ 0 ≤ y.n)) (h0 : x.c = 0) : x = eZ ∧ 1 ≤ y.c ∧ 0 ≤ y.n := by
 rcases h with h | h | h
 ·omega
 ·omega
 ·exact h
set_option maxHeartbeats 800000 in
theorem none_any (x : En) (w : World) {q : Bool} (hq : (x.c == 0) = q) : Calls Tryz.prog 69 #[.agg #[.string x.k, .int .i64 x.c, .int .i64 x.n, .string x.v, .bool x.d]] w fun e w' => e = .returned (.bool q) ∧ Below w.heap.size w w' := by
 subst hq
 go_enter Tryz.func69, Tryz.ntmps69
 go_wp2
 go_ret
 exact ⟨rfl, bnew _ _⟩
end Go.Proofs.YtpbkjffiohfkcaaGreatDoor
namespace Go.Proofs.YtpbkjffiohfkcaaGreatDoor
open Go.RowKit Go.Shelf
set_option linter.unusedVariables false
attribute [local go_sem] Oper.semAt_some
end Go.Proofs.YtpbkjffiohfkcaaGreatDoor
namespace Go.Proofs.YtpbkjffiohfkcaaGreatDoor
open Go.RowKit
set_option linter.unusedVariables false
theorem newerRef_en (x y : En) (w : World) {q : Bool} (h : En.newer x y = q) : Calls Tryz.prog 70 #[.agg #[.string x.k, .int .i64 x.c, .int .i64 x.n, .string x.v, .bool x.d], .agg #[.string y.k, .int .i64 y.c, .int .i64 y.n, .string y.v, .bool y.d]] w fun e w' => e = .returned (.bool q) ∧ Below w.heap.size w w' := newerRef_any _ _ _ _ _ _ _ _ _ _ q w h
set_option maxHeartbeats 8000000 in
set_option maxRecDepth 100000 in
theorem rlack_any (a : Option Addr) (la ca : Nat) (A : Nat → En) (b : Option Addr) (lb cb : Nat) (B : Nat → En) (w : World) (hA : EntsIn w a la ca A) (hB : EntsIn w b lb cb B) (hl : la + lb ≤ 2147483648) :
    Calls Tryz.prog 40 #[.slice a la ca, .slice b lb cb] w fun e w' => Says w (ck2 A la B lb) (outL (ck2 A la B lb) (lkP (prs (firstE A la) (firstE B lb)))) e w' := by
 obtain ⟨q, hq⟩ : ∃ q, ck2 A la B lb = q := ⟨_, rfl⟩
 have CK := aside (rchk2_any a la ca A b lb cb B w hA hB)
 rw [hq] at CK ⊢
 have CP := aside (fun W (bb : Below w.heap.size w W) (h0 : q = 0) => pairs_ok a la ca A b lb cb B W (hA.keep bb) (hB.keep bb) (hq.trans h0) hl)
 have HLN0 := aside (show (prs (firstE A la) (firstE B lb)).length ≤ 2147483648 from by have := prs_len (firstE A la) (firstE B lb); rw [firstE_len, firstE_len] at this; omega)
 have HMM := aside (fun (h0 : q = 0) => ck2_ok.1 (hq.trans h0))
 clear hA hB hl hq
 by_cases h0 : q = 0
 ·subst h0
  rw [outL_ok _ rfl]
  have HPR := aside (fun p (hp : p ∈ prs (firstE A la) (firstE B lb)) => pr_two (HMM.out rfl).1 (HMM.out rfl).2 hp)
  generalize prs (firstE A la) (firstE B lb) = l at *
  go_enter Tryz.func40, Tryz.ntmps40
  go_wp2_with fail
  refine CK.out.mono ?_
  rintro e w1 ⟨rfl, b1⟩
  have B1 := aside b1
  clear b1
  go_wp2_with fail
  refine (CP.out _ B1.out (by first | rfl | trivial)).mono ?_
  rintro e w3 ⟨g, cp, rfl, own3, b3⟩
  have B3 := aside (bthen B1.out b3)
  have O3 := aside own3
  clear own3 b3 CK CP B1 HMM
  obtain ⟨n, hn⟩ : ∃ n, l.length = n := ⟨_, rfl⟩
  have HN0 := aside hn
  rw [hn] at O3 HLN0 ⊢
  clear hn
  have hln : (n : Int) ≤ 2147483648 := by have := HLN0.out; omega
  have BE := aside (bnew w3 (.cells #[] 77))
  have OE := aside (own_emptyE w3 w3.heap.size (Nat.le_refl _))
  go_wp2
  go_loopw [8, 9] (fun v i wr => ∃ k : Nat, i = .int .i64 (k : Int) ∧ k ≤ n ∧ wr.ownsRow w3.heap.size 77 5 v (lkP (l.take k)).length (entCells (lkP (l.take k))) ∧ Below w3.heap.size w3 wr) (fun _ i _ => n - (intOf i).toNat)
  case atStart => exact ⟨0, rfl, Nat.zero_le _, OE.out, BE.out⟩
  case round =>
   obtain ⟨k, rfl, hk, hO, hB⟩ := hrel
   have HB := aside hB
   have HO := aside hO
   clear hB hO
   by_cases hlt : (k : Int) < (n : Int)
   ·have hk0 : (0 : Int) ≤ (k : Int) := by omega
    obtain ⟨⟨x, y⟩, hp⟩ : ∃ p, l[k]? = some p := ⟨_, List.getElem?_eq_getElem (by rw [HN0.out]; omega)⟩
    have PCW := aside (fun W (bb : Below w3.heap.size w3 W) => pr_cells (own_on O3.out bb) hp)
    have HTW := aside (HPR.out _ (List.mem_of_getElem? hp))
    have HLN := aside (show (lkP (l.take k)).length ≤ 2147483648 from by have h1 := lkP_len (l.take k); have h2 := List.length_take_le k l; omega)
    have HTK := aside (show l.take (k + 1) = l.take k ++ [(x, y)] from by rw [List.take_add_one, hp]; rfl)
    clear hp
    obtain ⟨⟨c0, c1, c2, c3, c4⟩, c5, c6, c7, c8, c9⟩ := PCW.out _ HB.out
    have hlk : lkP [(x, y)] = (if En.newer x y then [x] else []) := by
     unfold lkP
     cases h : En.newer x y <;> simp [h]
    have HSN0 := aside (show lkP (l.take (k + 1)) = lkP (l.take k) ++ (if En.newer x y then [x] else []) from by rw [HTK.out, lkP_snoc])
    clear hlk
    cases hq : (x.c == 0)
    ·have CN := aside (fun W => none_any x W hq)
     clear hq
     cases hq : En.newer x y
     ·have CW := aside (fun W => newerRef_en x y W hq)
      have HSN := aside (show lkP (l.take (k + 1)) = lkP (l.take k) from by rw [HSN0.out, hq]; simp)
      clear hq
      go_wp2_with fail
      refine wp_region_held_drew (S := fun W => Below w3.heap.size w3 W ∧ (W.cell? ⟨g, k * 10, none⟩ = some (.string x.k) ∧ W.cell? ⟨g, k * 10 + 1, none⟩ = some (.int .i64 x.c) ∧ W.cell? ⟨g, k * 10 + 2, none⟩ = some (.int .i64 x.n) ∧ W.cell? ⟨g, k * 10 + 3, none⟩ = some (.string x.v) ∧ W.cell? ⟨g, k * 10 + 4, none⟩ = some (.bool x.d)) ∧ W.cell? ⟨g, k * 10 + 5, none⟩ = some (.string y.k) ∧ W.cell? ⟨g, k * 10 + 6, none⟩ = some (.int .i64 y.c) ∧ W.cell? ⟨g, k * 10 + 7, none⟩ = some (.int .i64 y.n) ∧ W.cell? ⟨g, k * 10 + 8, none⟩ = some (.string y.v) ∧ W.cell? ⟨g, k * 10 + 9, none⟩ = some (.bool y.d)) (by kernel_rfl) ⟨HB.out.drew, PCW.out _ HB.out.drew⟩ (fun hHeld => ?_)
      refine tk 0 rfl _ ?_; refine tk 1 rfl _ ?_; refine tk 2 rfl _ ?_; refine tk 3 rfl _ ?_; refine tk 4 rfl _ ?_
      refine rd 5 rfl fun K hK => ?_
      go_simp
      refine (CN.out _).mono ?_
      rintro e w9 ⟨rfl, bb⟩
      refine hK.out _ _ (⟨hHeld.1.trans (bb.mono hHeld.1.size), PCW.out _ (hHeld.1.trans (bb.mono hHeld.1.size))⟩) (fun hHeld => ?_)
      replace HO := aside (own_on HO.out (bthen (Below.refl _ wr).drew bb))
      clear hK K CN bb
      refine tk 6 rfl _ ?_; refine tk 7 rfl _ ?_; refine tk 8 rfl _ ?_; refine tk 9 rfl _ ?_; refine tk 10 rfl _ ?_; refine tk 11 rfl _ ?_; refine tk 12 rfl _ ?_; refine tk 13 rfl _ ?_; refine tk 14 rfl _ ?_; refine tk 15 rfl _ ?_; refine tk 16 rfl _ ?_; refine tk 17 rfl _ ?_
      refine rd 18 rfl fun K hK => ?_
      go_simp
      refine (CW.out _).mono ?_
      rintro e w8 ⟨rfl, bb⟩
      refine hK.out _ _ (⟨hHeld.1.trans (bb.mono hHeld.1.size), PCW.out _ (hHeld.1.trans (bb.mono hHeld.1.size))⟩) (fun hHeld => ?_)
      replace HO := aside (own_on HO.out bb)
      clear hK K CW bb
      refine tk 19 rfl _ ?_
      refine wpAnyH_done (by kernel_rfl) ?_ _
      replace HB := aside hHeld.1
      clear hHeld c0 c1 c2 c3 c4 c5 c6 c7 c8 c9
      go_wp2
      go_roundw
      case rel => exact ⟨k + 1, by go_num, by omega, by rw [HSN.out]; exact HO.out, HB.out⟩
      case measure => simp [intOf]; omega
     ·have CW := aside (fun W => newerRef_en x y W hq)
      have HSN := aside (show lkP (l.take (k + 1)) = lkP (l.take k) ++ [x] from by rw [HSN0.out, hq]; simp)
      clear hq
      go_wp2_with fail
      refine wp_region_held_drew (S := fun W => Below w3.heap.size w3 W ∧ (W.cell? ⟨g, k * 10, none⟩ = some (.string x.k) ∧ W.cell? ⟨g, k * 10 + 1, none⟩ = some (.int .i64 x.c) ∧ W.cell? ⟨g, k * 10 + 2, none⟩ = some (.int .i64 x.n) ∧ W.cell? ⟨g, k * 10 + 3, none⟩ = some (.string x.v) ∧ W.cell? ⟨g, k * 10 + 4, none⟩ = some (.bool x.d)) ∧ W.cell? ⟨g, k * 10 + 5, none⟩ = some (.string y.k) ∧ W.cell? ⟨g, k * 10 + 6, none⟩ = some (.int .i64 y.c) ∧ W.cell? ⟨g, k * 10 + 7, none⟩ = some (.int .i64 y.n) ∧ W.cell? ⟨g, k * 10 + 8, none⟩ = some (.string y.v) ∧ W.cell? ⟨g, k * 10 + 9, none⟩ = some (.bool y.d)) (by kernel_rfl) ⟨HB.out.drew, PCW.out _ HB.out.drew⟩ (fun hHeld => ?_)
      refine tk 0 rfl _ ?_; refine tk 1 rfl _ ?_; refine tk 2 rfl _ ?_; refine tk 3 rfl _ ?_; refine tk 4 rfl _ ?_
      refine rd 5 rfl fun K hK => ?_
      go_simp
      refine (CN.out _).mono ?_
      rintro e w9 ⟨rfl, bb⟩
      refine hK.out _ _ (⟨hHeld.1.trans (bb.mono hHeld.1.size), PCW.out _ (hHeld.1.trans (bb.mono hHeld.1.size))⟩) (fun hHeld => ?_)
      replace HO := aside (own_on HO.out (bthen (Below.refl _ wr).drew bb))
      clear hK K CN bb
      refine tk 6 rfl _ ?_; refine tk 7 rfl _ ?_; refine tk 8 rfl _ ?_; refine tk 9 rfl _ ?_; refine tk 10 rfl _ ?_; refine tk 11 rfl _ ?_; refine tk 12 rfl _ ?_; refine tk 13 rfl _ ?_; refine tk 14 rfl _ ?_; refine tk 15 rfl _ ?_; refine tk 16 rfl _ ?_; refine tk 17 rfl _ ?_
      refine rd 18 rfl fun K hK => ?_
      go_simp
      refine (CW.out _).mono ?_
      rintro e w8 ⟨rfl, bb⟩
      refine hK.out _ _ (⟨hHeld.1.trans (bb.mono hHeld.1.size), PCW.out _ (hHeld.1.trans (bb.mono hHeld.1.size))⟩) (fun hHeld => ?_)
      replace HO := aside (own_on HO.out bb)
      clear hK K CW bb
      refine tk 19 rfl _ ?_
      refine wpAnyH_done (by kernel_rfl) ?_ _
      replace HB := aside hHeld.1
      clear hHeld c0 c1 c2 c3 c4 c5 c6 c7 c8 c9
      obtain ⟨⟨c0, c1, c2, c3, c4⟩, c5, c6, c7, c8, c9⟩ := PCW.out _ HB.out
      go_wp2_with (at_builtin; go_loud (refine wpList_plain rfl fun K hK => op_append_ent _ _ rfl w3.heap.size _ _ _ (by rfl) (HO.out.alloc _) w8.heap.size 1 x (by rfl) (heap_alloc_new w8 _) (by have := HLN.out; omega) (by have := HB.out.size; simp; omega) ?_); intro g1 cp1 w4 own4 gr4; refine hK _ _ ?_; refine Hid.out ?_)
      refine aside ?_
      have B4 := aside ((HB.out.alloc HB.out.size (.cells #[.string x.k, .int .i64 x.c, .int .i64 x.n, .string x.v, .bool x.d] 77)).grown gr4 (by have := HB.out.size; simp; omega) (fun k e => (HO.out.lt k e).1))
      have O4 := aside own4
      clear own4 gr4
      clear c0 c1 c2 c3 c4 c5 c6 c7 c8 c9
      go_wp2
      go_roundw
      case rel => exact ⟨k + 1, by go_num, by omega, by rw [HSN.out, List.length_append]; exact O4.out, B4.out⟩
      case measure => simp [intOf]; omega
    ·have CN := aside (fun W => none_any x W hq)
     have HSN := aside (show lkP (l.take (k + 1)) = lkP (l.take k) from by
      have h1 : x = eZ ∧ 1 ≤ y.c ∧ 0 ≤ y.n := pr_none HTW.out (by simpa using hq)
      rw [HSN0.out, h1.1, (newer_z h1.2).1]; simp)
     clear hq
     go_wp2_with fail
     refine wp_region_held_drew (S := fun W => Below w3.heap.size w3 W ∧ (W.cell? ⟨g, k * 10, none⟩ = some (.string x.k) ∧ W.cell? ⟨g, k * 10 + 1, none⟩ = some (.int .i64 x.c) ∧ W.cell? ⟨g, k * 10 + 2, none⟩ = some (.int .i64 x.n) ∧ W.cell? ⟨g, k * 10 + 3, none⟩ = some (.string x.v) ∧ W.cell? ⟨g, k * 10 + 4, none⟩ = some (.bool x.d)) ∧ W.cell? ⟨g, k * 10 + 5, none⟩ = some (.string y.k) ∧ W.cell? ⟨g, k * 10 + 6, none⟩ = some (.int .i64 y.c) ∧ W.cell? ⟨g, k * 10 + 7, none⟩ = some (.int .i64 y.n) ∧ W.cell? ⟨g, k * 10 + 8, none⟩ = some (.string y.v) ∧ W.cell? ⟨g, k * 10 + 9, none⟩ = some (.bool y.d)) (by kernel_rfl) ⟨HB.out.drew, PCW.out _ HB.out.drew⟩ (fun hHeld => ?_)
     refine tk 0 rfl _ ?_; refine tk 1 rfl _ ?_; refine tk 2 rfl _ ?_; refine tk 3 rfl _ ?_; refine tk 4 rfl _ ?_
     refine rd 5 rfl fun K hK => ?_
     go_simp
     refine (CN.out _).mono ?_
     rintro e w9 ⟨rfl, bb⟩
     refine hK.out _ _ (⟨hHeld.1.trans (bb.mono hHeld.1.size), PCW.out _ (hHeld.1.trans (bb.mono hHeld.1.size))⟩) (fun hHeld => ?_)
     replace HO := aside (own_on HO.out (bthen (Below.refl _ wr).drew bb))
     clear hK K CN bb
     refine tk 6 rfl _ ?_; refine tk 7 rfl _ ?_; refine tn 8 rfl ?_; refine tn 9 rfl ?_; refine tn 10 rfl ?_; refine tn 11 rfl ?_; refine tn 12 rfl ?_; refine tn 13 rfl ?_; refine tn 14 rfl ?_; refine tn 15 rfl ?_; refine tn 16 rfl ?_; refine tn 17 rfl ?_; refine tn 18 rfl ?_; refine tk 19 rfl _ ?_
     refine wpAnyH_done (by kernel_rfl) ?_ _
     replace HB := aside hHeld.1
     clear hHeld c0 c1 c2 c3 c4 c5 c6 c7 c8 c9
     go_wp2
     go_roundw
     case rel => exact ⟨k + 1, by go_num, by omega, by rw [HSN.out]; exact HO.out, HB.out⟩
     case measure => simp [intOf]; omega
   ·have hkl : k = n := by omega
    subst hkl
    have hT : l.take k = l := List.take_of_length_le (by rw [HN0.out]; exact Nat.le_refl _)
    rw [hT] at HO
    replace HO := aside (own_low HO.out B3.out.size)
    clear hT
    go_wp2
    go_ret2
    exact ⟨_, rfl, HO.out, bthen B3.out HB.out⟩
 ·have h0' : (q == 0) = false := by simpa using h0
  rw [outL_bad _ h0]
  clear h0 CP HMM
  go_enter Tryz.func40, Tryz.ntmps40
  go_wp2_with fail
  refine CK.out.mono ?_
  rintro e w1 ⟨rfl, b1⟩
  have B1 := aside b1
  clear b1 CK
  go_wp2
  go_ret2
  exact ⟨_, rfl, World.ownsRow_nil _ _ _ _, B1.out⟩
def RTk (w : World) (B db : Nat) (nd ck : Int) (l : List En) (e : En) (s : Int × Bool) (r : Ending) (w' : World) : Prop :=
 r = .returned (.tuple #[.bool s.2, .int .i64 s.1]) ∧ Keeps (fun x => x = db) w w' ∧ ((s.2 = false ∧ DSt w' B db nd ck l) ∨ (s.2 = true ∧ DSt w' B db nd (ckm ck e.c) (insE e l)))
set_option maxHeartbeats 6400000 in
set_option maxRecDepth 100000 in
theorem rtake (e : En) {w : World} {B db : Nat} {nd ck : Int} {l : List En} (h : DSt w B db nd ck l) (hm : MapL l) (hl : l.length ≤ 256) (hB : B ≤ w.heap.size) :
    Calls Tryz.prog 41 #[.pointer (some ⟨db, 0, none⟩), .agg #[.string e.k, .int .i64 e.c, .int .i64 e.n, .string e.v, .bool e.d]] w fun r w' => RTk w B db nd ck l e (tkSay e l) r w' := by
 have BX := aside (bnew w (.cells #[.string e.k, .int .i64 e.c, .int .i64 e.n, .string e.v, .bool e.d] 77))
 have KE := aside (heap_alloc_new w (.cells #[.string e.k, .int .i64 e.c, .int .i64 e.n, .string e.v, .bool e.d] 77))
 obtain ⟨q, hq⟩ : ∃ q, e.chk = q := ⟨_, rfl⟩
 have CC := aside (fun W => chk_of e W hq _ ichkRef_any)
 have CR := aside (fun W (bb : Below w.heap.size w W) => room_any e.k (h.below bb) hm)
 have CP := aside (fun W (bb : Below w.heap.size w W) => place_any e.k (h.below bb) hm)
 have HT := aside (show tkSay e l = if q ≠ 0 then (q, false) else if roomB e.k l = false then (80, false) else match lookE e.k l with | none => (0, true) | some o => (0, En.newer e o) from by unfold tkSay; rw [hq]; rfl)
 have HLK := aside (look_plc (k := e.k) hm.rises)
 have H := aside h
 have CL := aside (fun (hq0 : q = 0) W (bb : Below w.heap.size w W) => lay_any e (h.below bb) hm hl (Nat.le_trans hB bb.size) (key_small (by rw [hq, hq0])))
 have HPL := aside (fun g => isP_lt (k := e.k) (l := l) g)
 obtain ⟨a, c, hd, hA, -⟩ := h.ents hm
 have HD := aside hd
 have HA := aside hA
 obtain ⟨rm, hrm⟩ : ∃ rm, roomB e.k l = rm := ⟨_, rfl⟩
 rw [hrm] at CR HT
 obtain ⟨i, hi⟩ : ∃ i, plc e.k l = i := ⟨_, rfl⟩
 obtain ⟨p, hp⟩ : ∃ p, isP e.k l = p := ⟨_, rfl⟩
 rw [hi, hp] at CP HLK
 rw [hp, hi] at HPL
 obtain ⟨eb, heb⟩ : ∃ eb, w.heap.size = eb := ⟨_, rfl⟩
 rw [heb] at KE
 obtain ⟨X, hX⟩ : ∃ X, w.alloc (.cells #[.string e.k, .int .i64 e.c, .int .i64 e.n, .string e.v, .bool e.d] 77) = X := ⟨_, rfl⟩
 rw [hX] at BX KE
 clear h hm hl hB hq hd hA hrm hi hp
 obtain ⟨e0, e1, e2, e3, e4⟩ := (box5 KE.out).1
 by_cases hq0 : q = 0
 rotate_left
 ·have hqb : (q == 0) = false := by simpa using hq0
  rw [show tkSay e l = (q, false) from by rw [HT.out, if_pos hq0]]
  clear HT HLK CL
  go_enter Tryz.func41, Tryz.ntmps41
  go_wp2_with fail
  refine (CC.out _).mono ?_
  rintro r w1 ⟨rfl, b1⟩
  have B1 := aside (bthen BX.out b1)
  have KE1 := aside (blk_on KE.out b1)
  clear b1 CC KE BX hX e0 e1 e2 e3 e4
  go_wp2
  go_ret2
  exact ⟨rfl, Keeps.of_below B1.out _, .inl ⟨rfl, H.out.below B1.out⟩⟩
 subst hq0
 replace CL := aside (CL.out rfl)
 cases rm with
 | false =>
  rw [show tkSay e l = (80, false) from by rw [HT.out]; simp]
  clear HT HLK CL
  go_enter Tryz.func41, Tryz.ntmps41
  go_wp2_with fail
  refine (CC.out _).mono ?_
  rintro r w1 ⟨rfl, b1⟩
  have B1 := aside (bthen BX.out b1)
  have KE1 := aside (blk_on KE.out b1)
  clear b1 CC KE BX hX e0 e1 e2 e3 e4
  obtain ⟨e0, e1, e2, e3, e4⟩ := (box5 KE1.out).1
  go_wp2_with fail
  refine (CR.out _ B1.out).mono ?_
  rintro r w2 ⟨rfl, b2⟩
  have B2 := aside (bthen B1.out b2)
  have KE2 := aside (blk_on KE1.out b2)
  clear b2 CR KE1 B1 e0 e1 e2 e3 e4
  go_wp2
  go_ret2
  exact ⟨rfl, Keeps.of_below B2.out _, .inl ⟨rfl, H.out.below B2.out⟩⟩
 | true =>
  cases p with
  | false =>
   rw [show tkSay e l = (0, true) from by rw [HT.out, HLK.out]; simp]
   clear HT HLK HPL
   go_enter Tryz.func41, Tryz.ntmps41
   go_wp2_with fail
   refine (CC.out _).mono ?_
   rintro r w1 ⟨rfl, b1⟩
   have B1 := aside (bthen BX.out b1)
   have KE1 := aside (blk_on KE.out b1)
   clear b1 CC KE BX hX e0 e1 e2 e3 e4
   obtain ⟨e0, e1, e2, e3, e4⟩ := (box5 KE1.out).1
   go_wp2_with fail
   refine (CR.out _ B1.out).mono ?_
   rintro r w2 ⟨rfl, b2⟩
   have B2 := aside (bthen B1.out b2)
   have KE2 := aside (blk_on KE1.out b2)
   clear b2 CR KE1 B1 e0 e1 e2 e3 e4
   obtain ⟨e0, e1, e2, e3, e4⟩ := (box5 KE2.out).1
   go_wp2_with fail
   refine (CP.out _ B2.out).mono ?_
   rintro r w3 ⟨rfl, b3⟩
   have B3 := aside (bthen B2.out b3)
   have KE3 := aside (blk_on KE2.out b3)
   clear b3 CP KE2 B2 e0 e1 e2 e3 e4
   obtain ⟨e0, e1, e2, e3, e4⟩ := (box5 KE3.out).1
   clear e0 e1 e2 e3 e4
   go_wp2_with fail
   refine wp_region_held_drew (S := fun W => Below w.heap.size w W) (by kernel_rfl) (B3.out.drew) (fun hHeld => ?_)
   refine tk 0 rfl _ ?_; refine tk 1 rfl _ ?_; refine tn 2 rfl ?_; refine tn 3 rfl ?_; refine tn 4 rfl ?_; refine tn 5 rfl ?_; refine tn 6 rfl ?_; refine tn 7 rfl ?_; refine tn 8 rfl ?_; refine tn 9 rfl ?_; refine tn 10 rfl ?_; refine tn 11 rfl ?_; refine tk 12 rfl _ ?_
   refine wpAnyH_done (by kernel_rfl) ?_ _
   have B4 := aside hHeld
   have KE4 := aside (blk_on KE3.out (Below.refl _ w3).drew)
   clear hHeld B3 KE3
   obtain ⟨e0, e1, e2, e3, e4⟩ := (box5 KE4.out).1
   go_wp2_with fail
   refine (CL.out _ B4.out).mono ?_
   rintro r w9 ⟨rfl, ds, k9⟩
   have DS := aside ds
   have K9 := aside ((Keeps.of_below B4.out _).trans k9)
   clear ds k9 CL e0 e1 e2 e3 e4
   go_wp2
   go_ret2
   exact ⟨rfl, K9.out, .inr ⟨rfl, DS.out⟩⟩
  | true =>
   have hil : i < l.length := HPL.out rfl
   obtain ⟨x, hx⟩ : ∃ x, nthE l i = x := ⟨_, rfl⟩
   obtain ⟨nw, hnw⟩ : ∃ nw, En.newer e x = nw := ⟨_, rfl⟩
   rw [show tkSay e l = (0, nw) from by rw [HT.out, HLK.out]; simp [hx, hnw]]
   clear HT HLK HPL
   have CN := aside (fun W => newerRef_en e x W hnw)
   rcases HA.out.2.2 with h0 | ⟨b, off, rfl, -, -⟩
   ·omega
   have hi0 : (0 : Int) ≤ (i : Int) := by omega
   have hil2 : (i : Int) < (l.length : Int) := by omega
   have TS := aside (show ∀ W : World, Below w.heap.size w W → True from fun _ _ => trivial)
   go_enter Tryz.func41, Tryz.ntmps41
   go_wp2_with fail
   refine (CC.out _).mono ?_
   rintro r w1 ⟨rfl, b1⟩
   have B1 := aside (bthen BX.out b1)
   have KE1 := aside (blk_on KE.out b1)
   clear b1 CC KE BX hX e0 e1 e2 e3 e4
   obtain ⟨e0, e1, e2, e3, e4⟩ := (box5 KE1.out).1
   go_wp2_with fail
   refine (CR.out _ B1.out).mono ?_
   rintro r w2 ⟨rfl, b2⟩
   have B2 := aside (bthen B1.out b2)
   have KE2 := aside (blk_on KE1.out b2)
   clear b2 CR KE1 B1 e0 e1 e2 e3 e4
   obtain ⟨e0, e1, e2, e3, e4⟩ := (box5 KE2.out).1
   go_wp2_with fail
   refine (CP.out _ B2.out).mono ?_
   rintro r w3 ⟨rfl, b3⟩
   have B3 := aside (bthen B2.out b3)
   have KE3 := aside (blk_on KE2.out b3)
   clear b3 CP KE2 B2 e0 e1 e2 e3 e4
   obtain ⟨e0, e1, e2, e3, e4⟩ := (box5 KE3.out).1
   have EX := aside (ents_five (HA.out.keep B3.out) hil hx)
   obtain ⟨d0, d1, d2⟩ := box3r (blk_on HD.out B3.out)
   have HXX := aside hx
   clear hx hnw TS
   go_wp2_with fail
   refine wp_region_held_drew (S := fun W => Below w.heap.size w W ∧ (W.cell? ⟨eb, 0, none⟩ = some (.string e.k) ∧ W.cell? ⟨eb, 1, none⟩ = some (.int .i64 e.c) ∧ W.cell? ⟨eb, 2, none⟩ = some (.int .i64 e.n) ∧ W.cell? ⟨eb, 3, none⟩ = some (.string e.v) ∧ W.cell? ⟨eb, 4, none⟩ = some (.bool e.d)) ∧ W.cell? ⟨db, 2, none⟩ = some (.slice (some ⟨b, off, none⟩) l.length c) ∧ (W.cell? ⟨b, off + i * 5, none⟩ = some (.string x.k) ∧ W.cell? ⟨b, off + i * 5 + 1, none⟩ = some (.int .i64 x.c) ∧ W.cell? ⟨b, off + i * 5 + 2, none⟩ = some (.int .i64 x.n) ∧ W.cell? ⟨b, off + i * 5 + 3, none⟩ = some (.string x.v) ∧ W.cell? ⟨b, off + i * 5 + 4, none⟩ = some (.bool x.d))) (by kernel_rfl) ⟨B3.out.drew, ⟨e0, e1, e2, e3, e4⟩, d2, EX.out⟩ (fun hHeld => ?_)
   refine tk 0 rfl _ ?_; refine tk 1 rfl _ ?_; refine tk 2 rfl _ ?_; refine tk 3 rfl _ ?_; refine tk 4 rfl _ ?_; refine tk 5 rfl _ ?_; refine tk 6 rfl _ ?_; refine tk 7 rfl _ ?_; refine tk 8 rfl _ ?_; refine tk 9 rfl _ ?_
   clear e0 e1 e2 e3 e4 d0 d1 d2
   refine rd 10 rfl fun K hK => ?_
   go_simp
   refine (CN.out _).mono ?_
   rintro e w9 ⟨rfl, bb⟩
   refine hK.out _ _ (⟨hHeld.1.trans (bb.mono hHeld.1.size), (box5 (blk_on KE3.out (bthen (Below.refl _ w3).drew bb))).1, (box3r (blk_on HD.out (hHeld.1.trans (bb.mono hHeld.1.size)))).2.2, ents_five (HA.out.keep (hHeld.1.trans (bb.mono hHeld.1.size))) hil HXX.out⟩) (fun hHeld => ?_)
   clear hK K 
   refine tk 11 rfl _ ?_; refine tk 12 rfl _ ?_
   refine wpAnyH_done (by kernel_rfl) ?_ _
   have B4 := aside hHeld.1
   have KE4 := aside (show w9.heap[eb]? = some (.cells #[.string e.k, .int .i64 e.c, .int .i64 e.n, .string e.v, .bool e.d] 77 (0, 0)) from blk_on KE3.out (bthen (Below.refl _ w3).drew bb))
   clear hHeld bb B3 KE3 EX CN
   cases nw with
   | false =>
    go_wp2
    go_ret2
    exact ⟨rfl, Keeps.of_below B4.out _, .inl ⟨rfl, H.out.below B4.out⟩⟩
   | true =>
    skip
    obtain ⟨e0, e1, e2, e3, e4⟩ := (box5 KE4.out).1
    go_wp2_with fail
    refine (CL.out _ B4.out).mono ?_
    rintro r w10 ⟨rfl, ds, k9⟩
    have DS := aside ds
    have K9 := aside ((Keeps.of_below B4.out _).trans k9)
    clear ds k9 CL e0 e1 e2 e3 e4
    go_wp2
    go_ret2
    exact ⟨rfl, K9.out, .inr ⟨rfl, DS.out⟩⟩
def smL (ln : Nat → Nat) : Nat → Nat
 | 0 => 0
 | k + 1 => smL ln k + ln k
def ListsIn (w : World) (gb m : Nat) (ad : Nat → Option Addr) (ln cp : Nat → Nat) (T : Nat → Nat → En) : Prop := ∀ k, k < m → w.cell? ⟨gb, k, none⟩ = some (.slice (ad k) (ln k) (cp k)) ∧ EntsIn w (ad k) (ln k) (cp k) (T k)
theorem by_step (c x y : Nat) (hc : c ≤ 1073741824) : Value.int .i64 (IntKind.i64.wrap ((c : Int) + IntKind.i64.wrap (IntKind.i64.wrap (1 + (if (1073741824 : Int) < (x : Int) then 1073741824 else (x : Int))) + if (1073741824 : Int) < (y : Int) then 1073741824 else (y : Int)))) = .int .i64 ((c + (1 + (min x 1073741824 + min y 1073741824)) : Nat) : Int) := by
 congr 1
 rw [IntKind.wrap_i64, IntKind.wrap_i64, IntKind.wrap_i64]
 split <;> split <;> omega
theorem int_eqF {a b : Int} (h : a = b) : Value.int .i64 a = .int .i64 b := by rw [h]
theorem wt_step (m x y : Nat) (hm : m ≤ 2147483648) : Value.int .i64 (IntKind.i64.wrap (IntKind.i64.wrap (IntKind.i64.wrap ((m : Int) + 1) + (if (2147483648 : Int) < (x : Int) then 2147483648 else (x : Int))) + (if (2147483648 : Int) < (y : Int) then 2147483648 else (y : Int)))) = .int .i64 ((m + 1 + min x 2147483648 + min y 2147483648 : Nat) : Int) := by
 refine int_eqF ?_
 rw [IntKind.wrap_i64, IntKind.wrap_i64, IntKind.wrap_i64]
 split <;> split <;> omega
set_option maxHeartbeats 6400000 in
set_option maxRecDepth 100000 in
theorem weight_any (a : Option Addr) (len cap : Nat) (P : Nat → Pm) (w : World) (h : PartsIn w a len cap P) :
    Calls Tryz.prog 28 #[.slice a len cap] w fun e w' => ∃ m : Nat, e = .returned (.int .i64 (m : Int)) ∧ (m ≤ 536870912 → len + totE P len ≤ m) ∧ Below w.heap.size w w' := by
 have HE := aside h
 have hmx : (len : Int) ≤ 9223372036854775807 := by have h1 := h.1; have h2 := h.2.1; unfold maxLen at h2; omega
 clear h
 go_enter Tryz.func28, Tryz.ntmps28
 go_wp2
 go_loopw [3, 4] (fun c i wr => ∃ (j m : Nat), c = .int .i64 (m : Int) ∧ i = .int .i64 (j : Int) ∧ j ≤ len ∧ (Hid (j + totE P j ≤ m ∨ 2147483648 ≤ m)) ∧ m ≤ 6442450944 ∧ Hid (Below w.heap.size w wr)) (fun c i _ => len - (intOf i).toNat)
 case atStart => exact ⟨0, 0, rfl, rfl, Nat.zero_le _, Or.inl (Nat.le_refl _), by omega, Below.refl _ _⟩
 case round =>
  obtain ⟨j, m, rfl, rfl, hj, HJ, hm, HB⟩ := hrel
  by_cases hlt : (j : Int) < (len : Int)
  ·by_cases hm31 : (m : Int) < 2147483648
   ·skip
    rcases HE.out.2.2 with h0 | ⟨b, off, rfl, hb, hc⟩
    ·omega
    obtain ⟨hat, hin⟩ := hc j (by omega)
    obtain ⟨p, hp⟩ : ∃ p, P j = p := ⟨_, rfl⟩
    have HP := aside hp
    rw [hp] at hat hin
    clear hp hc
    obtain ⟨kind, lo, hi, op, cnt, s0, s1, ea, el, ec, T⟩ := p
    obtain ⟨-, c1, c2, -, -, -, -, c7⟩ := hat
    dsimp only at c1 c2 c7
    have hj0 : (0 : Int) ≤ (j : Int) := by omega
    have HIN := aside (show EntsIn w ea el ec T from hin)
    have hel : (el : Int) ≤ 9223372036854775807 := by have h1 := HIN.out.1; have h2 := HIN.out.2.1; unfold maxLen at h2; omega
    clear hin
    have C7 := aside (fun W (bb : Below w.heap.size w W) => cell_in c7 bb)
    replace c1 := cell_in c1 HB.out
    replace c2 := cell_in c2 HB.out
    clear c7
    go_upto_region 5 with fail
    go_cut [3] (fun s9 wx => ∃ m1 : Nat, s9 = .int .i64 (m1 : Int) ∧ Hid (j + 1 + totE P j + 0 ≤ m1 ∨ 2147483648 ≤ m1) ∧ Hid (m1 ≤ 6442450944) ∧ Hid (Below w.heap.size w wx))
    case first =>
     have HJ1 := aside (show j + 1 + totE P j + 0 ≤ m + 1 + min lo.size 2147483648 + min hi.size 2147483648 ∨ 2147483648 ≤ m + 1 + min lo.size 2147483648 + min hi.size 2147483648 from by have := HJ.out; omega)
     have HM1 := aside (show m + 1 + min lo.size 2147483648 + min hi.size 2147483648 ≤ 6442450944 from by omega)
     have HM9 := aside (show m ≤ 2147483647 from by omega)
     clear hm hm31
     have SX := aside (fun W (bb : Below wr.heap.size wr W) => (show Below wr.heap.size wr W ∧ W.cell? ⟨b, off + j * 8 + 1, none⟩ = some (.string lo) ∧ W.cell? ⟨b, off + j * 8 + 2, none⟩ = some (.string hi) from ⟨bb, cell_in c1 bb, cell_in c2 bb⟩))
     clear c1 c2
     refine wp_region_held_drew (S := fun W => Below wr.heap.size wr W ∧ W.cell? ⟨b, off + j * 8 + 1, none⟩ = some (.string lo) ∧ W.cell? ⟨b, off + j * 8 + 2, none⟩ = some (.string hi)) (by kernel_rfl) (SX.out _ (Below.refl _ wr).drew) (fun hHeld => ?_)
     refine tk 0 rfl _ ?_; refine tk 1 rfl _ ?_; refine tk 2 rfl _ ?_; refine tk 3 rfl _ ?_; refine tk 4 rfl _ ?_; refine tk 5 rfl _ ?_; refine tk 6 rfl _ ?_; refine tk 7 rfl _ ?_; refine tk 8 rfl _ ?_; refine tk 9 rfl _ ?_; refine tk 10 rfl _ ?_; refine tk 11 rfl _ ?_; refine tk 12 rfl _ ?_; refine tk 13 rfl _ ?_; refine tk 14 rfl _ ?_; refine tk 15 rfl _ ?_; refine tk 16 rfl _ ?_; refine tk 17 rfl _ ?_; refine tk 18 rfl _ ?_; refine tk 19 rfl _ ?_; refine tk 20 rfl _ ?_
     refine wpAnyH_done (by kernel_rfl) ?_ _
     have B9 := aside (HB.out.trans (hHeld.1.mono HB.out.size))
     clear hHeld
     generalize hX : (if (2147483648 : Int) < (lo.size : Int) then (2147483648 : Int) else (lo.size : Int)) = X
     generalize hY : (if (2147483648 : Int) < (hi.size : Int) then (2147483648 : Int) else (hi.size : Int)) = Y
     have HX := aside hX
     have HY := aside hY
     clear hX hY
     go_wp2
     go_meet
     exact ⟨m + 1 + min lo.size 2147483648 + min hi.size 2147483648, by rw [← HX.out, ← HY.out]; exact wt_step m lo.size hi.size (by have := HM9.out; omega), HJ1, HM1, B9⟩
    case rest =>
     obtain ⟨m1, rfl, HJ1, HM1, HB1⟩ := hcut
     clear c1 c2 HJ hm hm31 HB
     go_wp2
     go_loopw [3, 5] (fun c i wr => ∃ (k m : Nat), c = .int .i64 (m : Int) ∧ i = .int .i64 (k : Int) ∧ k ≤ el ∧ (Hid (j + 1 + totE P j + k ≤ m ∨ 2147483648 ≤ m)) ∧ m ≤ 6442450944 ∧ Hid (Below w.heap.size w wr)) (fun c i _ => el - (intOf i).toNat)
     case atStart => exact ⟨0, m1, rfl, rfl, Nat.zero_le _, HJ1, HM1.out, HB1⟩
     case round =>
      obtain ⟨k, m, rfl, rfl, hk, HJ, hm, HB⟩ := hrel
      have c7 := C7.out _ HB.out
      by_cases hlk : (k : Int) < (el : Int)
      ·by_cases hm31 : (m : Int) < 2147483648
       ·have hk0 : (0 : Int) ≤ (k : Int) := by omega
        rcases (HIN.out.keep HB.out).2.2 with h0 | ⟨b2, o2, rfl, hb2, hc2⟩
        ·omega
        obtain ⟨⟨d0, -, -, d3, -⟩, -⟩ := hc2 k (by omega)
        obtain ⟨t, ht⟩ : ∃ t, T k = t := ⟨_, rfl⟩
        rw [ht] at d0 d3
        clear hc2 ht hb2
        obtain ⟨tkz, htk⟩ : ∃ tkz, t.k = tkz := ⟨_, rfl⟩
        obtain ⟨tv, htv⟩ : ∃ tv, t.v = tv := ⟨_, rfl⟩
        rw [htk] at d0
        rw [htv] at d3
        clear htk htv
        go_upto_region 9 with fail
        have HM9 := aside (show m ≤ 2147483647 from by omega)
        clear hm hm31
        have SX := aside (fun W (bb : Below wr.heap.size wr W) => (show Below wr.heap.size wr W ∧ W.cell? ⟨b, off + j * 8 + 7, none⟩ = some (.slice (some ⟨b2, o2, none⟩) el ec) ∧ W.cell? ⟨b2, o2 + k * 5, none⟩ = some (.string tkz) ∧ W.cell? ⟨b2, o2 + k * 5 + 3, none⟩ = some (.string tv) from ⟨bb, cell_in c7 bb, cell_in d0 bb, cell_in d3 bb⟩))
        clear c7 d0 d3
        refine wp_region_held_drew (S := fun W => Below wr.heap.size wr W ∧ W.cell? ⟨b, off + j * 8 + 7, none⟩ = some (.slice (some ⟨b2, o2, none⟩) el ec) ∧ W.cell? ⟨b2, o2 + k * 5, none⟩ = some (.string tkz) ∧ W.cell? ⟨b2, o2 + k * 5 + 3, none⟩ = some (.string tv)) (by kernel_rfl) (SX.out _ (Below.refl _ wr).drew) (fun hHeld => ?_)
        refine tk 0 rfl _ ?_; refine tk 1 rfl _ ?_; refine tk 2 rfl _ ?_; refine tk 3 rfl _ ?_; refine tk 4 rfl _ ?_; refine tk 5 rfl _ ?_; refine tk 6 rfl _ ?_; refine tk 7 rfl _ ?_; refine tk 8 rfl _ ?_; refine tk 9 rfl _ ?_; refine tk 10 rfl _ ?_; refine tk 11 rfl _ ?_; refine tk 12 rfl _ ?_; refine tk 13 rfl _ ?_; refine tk 14 rfl _ ?_; refine tk 15 rfl _ ?_; refine tk 16 rfl _ ?_; refine tk 17 rfl _ ?_; refine tk 18 rfl _ ?_; refine tk 19 rfl _ ?_; refine tk 20 rfl _ ?_; refine tk 21 rfl _ ?_; refine tk 22 rfl _ ?_; refine tk 23 rfl _ ?_; refine tk 24 rfl _ ?_; refine tk 25 rfl _ ?_; refine tk 26 rfl _ ?_
        refine wpAnyH_done (by kernel_rfl) ?_ _
        have B9 := aside (HB.out.trans (hHeld.1.mono HB.out.size))
        clear hHeld
        go_wp2
        go_roundw
        case rel => exact ⟨k + 1, m + 1 + min tkz.size 2147483648 + min tv.size 2147483648, wt_step m tkz.size tv.size (by have := HM9.out; omega), by go_num, by omega, show _ ∨ _ from by have := HJ.out; omega, by have := HM9.out; omega, B9⟩
        case measure => simp [intOf]; omega
       ·go_wp2
        go_roundw
        case rel => exact ⟨j + 1, m, rfl, by go_num, by omega, Or.inr (by omega), hm, HB⟩
        case measure => simp [intOf]; omega
      ·have HL := aside (show totE P (j + 1) = totE P j + el from by simp only [totE, HP.out])
       go_wp2
       go_roundw
       case rel => exact ⟨j + 1, m, rfl, by go_num, by omega, show _ ∨ _ from by have h1 := HJ.out; have h2 := HL.out; omega, hm, HB⟩
       case measure => simp [intOf]; omega
   ·go_wp2
    go_ret
    exact ⟨m, rfl, fun g => by omega, HB.out⟩
  ·have hjl : j = len := by omega
   subst hjl
   go_wp2
   go_ret
   exact ⟨m, rfl, fun g => by have := HJ.out; omega, HB.out⟩
end Go.Proofs.YtpbkjffiohfkcaaGreatDoor

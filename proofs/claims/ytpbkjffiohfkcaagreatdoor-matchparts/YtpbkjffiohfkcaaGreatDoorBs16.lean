/-
  rows and Fold.
-/
import Derived.Test.YtpbkjffiohfkcaaGreatDoorBs1
import Derived.Test.YtpbkjffiohfkcaaGreatDoorBs15
import Derived.Test.YtpbkjffiohfkcaaGreatDoorBs13
namespace Go.Proofs.YtpbkjffiohfkcaaGreatDoor
open Go.RowKit
set_option linter.unusedVariables false
theorem held_rows {w X : World} {sb g tb : Nat} {nd ck : Int} {T : Tr En Tl} {n : Nat} {lo hi : ByteArray} {op : Bool} (h : IsSt X sb g tb nd ck T n) (hb : X.heap[w.heap.size]? = some (.cells #[.string lo, .string hi, .bool op] 40 (0, 0))) : X.cell? ⟨sb, 3, none⟩ = some (.pointer (some ⟨tb, 0, none⟩)) ∧ X.cell? ⟨w.heap.size, 0, none⟩ = some (.string lo) ∧ X.cell? ⟨w.heap.size, 1, none⟩ = some (.string hi) ∧ X.cell? ⟨w.heap.size, 2, none⟩ = some (.bool op) := by
 obtain ⟨c0, c1, c2, c3, -⟩ := quad h.blk
 obtain ⟨b0, b1, b2, -⟩ := tri hb
 exact ⟨c3, b0, b1, b2⟩
theorem yrank_at {w : World} {tb g : Nat} {T : Tr En Tl} {Ls : List En} (k : ByteArray) {q : Int} (h : TreeE w tb (jvE g) T) (hH : Hol T Ls) (hl : Ls.length ≤ 1000000) (hq : (belE k Ls : Int) = q) :
    Calls Tryz.prog 80 #[.pointer (some ⟨tb, 0, none⟩), .string k] w fun e w' => e = .returned (.int .i64 q) ∧ Below w.heap.size w w' := by
 have h1 := yrankE k h hH.gd (by omega)
 rw [hH.lower, hq] at h1
 exact h1
set_option maxHeartbeats 3200000 in
set_option maxRecDepth 100000 in
theorem srowsO (lo hi : ByteArray) {Ls : List En} {w : World} {sb g tb : Nat} {nd ck : Int} {T : Tr En Tl} {n : Nat} (h : IsSt w sb g tb nd ck T n) (hH : Hol T Ls) (hl : Ls.length ≤ 1000000) :
    Calls Tryz.prog 48 #[.pointer (some ⟨sb, 0, none⟩), .agg #[.string lo, .string hi, .bool true]] w fun r w' => r = .returned (.tuple #[.int .i64 (belE lo Ls : Int), .int .i64 (endE hi true Ls : Int)]) ∧ Below w.heap.size w w' := by
 obtain ⟨a, ha⟩ : ∃ a : Int, (belE lo Ls : Int) = a := ⟨_, rfl⟩
 obtain ⟨b, hb⟩ : ∃ b : Int, (endE hi true Ls : Int) = b := ⟨_, rfl⟩
 have H := aside (h.alloc (.cells #[.string lo, .string hi, .bool true] 40))
 have G := aside (heap_alloc_new w (.cells #[.string lo, .string hi, .bool true] 40))
 have B0 := aside (bnew w (.cells #[.string lo, .string hi, .bool true] 40))
 have C1 := aside (fun (W : World) (h : IsSt W sb g tb nd ck T n) => yrank_at lo h.tree hH hl ha)
 have C2 := aside (fun (W : World) (h : IsSt W sb g tb nd ck T n) => slen h)
 rw [show (T.cnt : Int) = b from by rw [hH.cnt, ← hb]; rfl] at C2
 rw [ha, hb]
 clear h hH hl ha hb
 go_enter Tryz.func48, Tryz.ntmps48
 obtain ⟨-, -, q2, -⟩ := tri G.out
 go_wp2_with fail
 clear q2
 generalize w.alloc (.cells #[.string lo, .string hi, .bool true] 40) = V at *
 refine wp_region_held_drew (S := fun X => X.cell? ⟨sb, 3, none⟩ = some (.pointer (some ⟨tb, 0, none⟩)) ∧ X.cell? ⟨w.heap.size, 0, none⟩ = some (.string lo) ∧ X.cell? ⟨w.heap.size, 1, none⟩ = some (.string hi) ∧ X.cell? ⟨w.heap.size, 2, none⟩ = some (.bool true)) (by kernel_rfl) (held_rows H.out.drew G.out) (fun hHeld => ?_)
 refine tk 0 rfl _ ?_; refine tk 1 rfl _ ?_; refine tk 2 rfl _ ?_; refine tk 3 rfl _ ?_; refine tk 4 rfl _ ?_; refine tk 5 rfl _ ?_; refine tk 7 rfl _ ?_
 refine rd 6 rfl fun K hK => ?_
 go_simp
 refine (C1.out _ H.out.drew).mono ?_
 rintro e w9 ⟨rfl, bb⟩
 refine hK.out _ _ (held_rows (H.out.drew.below bb) (blk_on (show V.drew.heap[w.heap.size]? = some _ from G.out) bb)) (fun hHeld => ?_)
 clear hK K 
 have H1 := aside (H.out.drew.below bb)
 have G1 := aside (blk_on (show V.drew.heap[w.heap.size]? = some _ from G.out) bb)
 have B1 := aside (bthen B0.out.drew bb)
 clear bb
 refine rd 8 rfl fun K hK => ?_
 go_simp
 refine (C2.out _ H1.out).mono ?_
 rintro e w9 ⟨rfl, rfl⟩
 refine hK.out _ _ (hHeld) (fun hHeld => ?_)
 clear hK K 
 refine tk 9 rfl _ ?_; refine tk 10 rfl _ ?_
 refine wpAnyH_done (by kernel_rfl) ?_ _
 go_wp2
 refine bodyPost_ret (v := .tuple #[.int .i64 a, .int .i64 b]) (by simp [results, Tryz.results48, go_sem]) rfl ⟨rfl, B1.out⟩
set_option maxHeartbeats 3200000 in
set_option maxRecDepth 100000 in
theorem srowsC (lo hi : ByteArray) {Ls : List En} {w : World} {sb g tb : Nat} {nd ck : Int} {T : Tr En Tl} {n : Nat} (h : IsSt w sb g tb nd ck T n) (hH : Hol T Ls) (hl : Ls.length ≤ 1000000) :
    Calls Tryz.prog 48 #[.pointer (some ⟨sb, 0, none⟩), .agg #[.string lo, .string hi, .bool false]] w fun r w' => r = .returned (.tuple #[.int .i64 (belE lo Ls : Int), .int .i64 (endE hi false Ls : Int)]) ∧ Below w.heap.size w w' := by
 obtain ⟨a, ha⟩ : ∃ a : Int, (belE lo Ls : Int) = a := ⟨_, rfl⟩
 obtain ⟨b, hb⟩ : ∃ b : Int, (endE hi false Ls : Int) = b := ⟨_, rfl⟩
 have H := aside (h.alloc (.cells #[.string lo, .string hi, .bool false] 40))
 have G := aside (heap_alloc_new w (.cells #[.string lo, .string hi, .bool false] 40))
 have B0 := aside (bnew w (.cells #[.string lo, .string hi, .bool false] 40))
 have C1 := aside (fun (W : World) (h : IsSt W sb g tb nd ck T n) => yrank_at lo h.tree hH hl ha)
 have C2 := aside (fun (W : World) (h : IsSt W sb g tb nd ck T n) => yrank_at hi h.tree hH hl (show (belE hi Ls : Int) = b from hb))
 rw [ha, hb]
 clear h hH hl ha hb
 go_enter Tryz.func48, Tryz.ntmps48
 obtain ⟨-, -, q2, -⟩ := tri G.out
 go_wp2_with fail
 clear q2
 generalize w.alloc (.cells #[.string lo, .string hi, .bool false] 40) = V at *
 refine wp_region_held_drew (S := fun X => X.cell? ⟨sb, 3, none⟩ = some (.pointer (some ⟨tb, 0, none⟩)) ∧ X.cell? ⟨w.heap.size, 0, none⟩ = some (.string lo) ∧ X.cell? ⟨w.heap.size, 1, none⟩ = some (.string hi) ∧ X.cell? ⟨w.heap.size, 2, none⟩ = some (.bool false)) (by kernel_rfl) (held_rows H.out.drew G.out) (fun hHeld => ?_)
 refine tk 0 rfl _ ?_; refine tk 1 rfl _ ?_; refine tk 2 rfl _ ?_; refine tk 3 rfl _ ?_; refine tk 4 rfl _ ?_; refine tk 5 rfl _ ?_; refine tk 7 rfl _ ?_; refine tk 8 rfl _ ?_; refine tk 9 rfl _ ?_; refine tk 10 rfl _ ?_; refine tk 11 rfl _ ?_; refine tk 12 rfl _ ?_
 refine rd 6 rfl fun K hK => ?_
 go_simp
 refine (C1.out _ H.out.drew).mono ?_
 rintro e w9 ⟨rfl, bb⟩
 refine hK.out _ _ (held_rows (H.out.drew.below bb) (blk_on (show V.drew.heap[w.heap.size]? = some _ from G.out) bb)) (fun hHeld => ?_)
 clear hK K 
 have H1 := aside (H.out.drew.below bb)
 have G1 := aside (blk_on (show V.drew.heap[w.heap.size]? = some _ from G.out) bb)
 have B1 := aside (bthen B0.out.drew bb)
 clear bb
 refine rd 13 rfl fun K hK => ?_
 go_simp
 refine (C2.out _ H1.out).mono ?_
 rintro e w8 ⟨rfl, bb⟩
 refine hK.out _ _ (held_rows (H1.out.below bb) (blk_on G1.out bb)) (fun hHeld => ?_)
 clear hK K 
 have B2 := aside (bthen B1.out bb)
 clear bb
 refine tk 14 rfl _ ?_; refine tk 15 rfl _ ?_
 refine wpAnyH_done (by kernel_rfl) ?_ _
 go_wp2
 refine bodyPost_ret (v := .tuple #[.int .i64 a, .int .i64 b]) (by simp [results, Tryz.results48, go_sem]) rfl ⟨rfl, B2.out⟩
theorem srows (lo hi : ByteArray) (op : Bool) {Ls : List En} {w : World} {sb g tb : Nat} {nd ck : Int} {T : Tr En Tl} {n : Nat} (h : IsSt w sb g tb nd ck T n) (hH : Hol T Ls) (hl : Ls.length ≤ 1000000) :
    Calls Tryz.prog 48 #[.pointer (some ⟨sb, 0, none⟩), .agg #[.string lo, .string hi, .bool op]] w fun r w' => r = .returned (.tuple #[.int .i64 (belE lo Ls : Int), .int .i64 (endE hi op Ls : Int)]) ∧ Below w.heap.size w w' := by
 cases op
 ·exact srowsC lo hi h hH hl
 ·exact srowsO lo hi h hH hl
def foldV (lo hi : ByteArray) (op : Bool) (Ls : List En) : Tl := if Rg.chk ⟨lo, hi, op⟩ = 0 then talL (Ls.filter (inR lo hi op)) else tZero
theorem chk_may {lo hi : ByteArray} {op : Bool} (h : Rg.chk ⟨lo, hi, op⟩ = 0) : op = true ∨ kLt hi lo = false := by
 cases op with
 | true => exact .inl rfl
 | false =>
  refine .inr ?_
  unfold Rg.chk at h
  split at h
  ·cases h
  ·split at h
   ·cases h
   ·rename_i h2
    cases h3 : Op.bytesLess lo.toList hi.toList
    ·cases h4 : (lo.toList == hi.toList)
     ·simp [h3, h4] at h2
     ·rw [toList_inj (beq_iff_eq.1 h4)]
      exact kLt_irrefl _
    ·exact kLt_asymm h3
theorem fold_end {w X : World} {sb g tb m : Nat} {nd ck : Int} {T : Tr En Tl} {n : Nat} (h : IsSt X sb g tb nd ck T n) (k : Keeps (Of sb g tb) w X) (hb : X.heap[w.heap.size + 1]? = some (.cells #[.int .i64 0, .int .u64 0, .int .u64 0] 45 (0, 0))) (y : Tl) : IsSt (set3 X (w.heap.size + 1) y) sb g tb nd ck T n ∧ Keeps (Of sb g tb) w (set3 X (w.heap.size + 1) y) := by
 have hn := h.not hb (by decide) (by decide) (by decide)
 obtain ⟨p, ht, hT⟩ := h.tree
 refine ⟨⟨(set3_other _ _ _ _ (fun e => hn (.inl e.symm))).trans h.blk, h.cnt.set3 (fun e => hn (.inr (.inr (Option.some.inj e).symm))) y, ⟨p, (set3_other _ _ _ _ (fun e => hn (.inr (.inl e.symm)))).trans ht, hT.on ((Stay.refl _ X).set3 hb (by decide) y)⟩⟩, k.set3 (fun e => by omega) y⟩
set_option maxHeartbeats 3200000 in
set_option maxRecDepth 100000 in
theorem sfold (lo hi : ByteArray) (op : Bool) {Ls : List En} {w : World} {sb g tb : Nat} {nd ck : Int} {T : Tr En Tl} {n : Nat} (h : IsSt w sb g tb nd ck T n) (hH : Hol T Ls) (hl : Ls.length ≤ 1000000) :
    Calls Tryz.prog 25 #[.pointer (some ⟨sb, 0, none⟩), .agg #[.string lo, .string hi, .bool op]] w fun r w' => r = .returned (.tuple #[.agg #[.int .i64 (foldV lo hi op Ls).n, .int .u64 (foldV lo hi op Ls).a, .int .u64 (foldV lo hi op Ls).b], .int .i64 (Rg.chk ⟨lo, hi, op⟩)]) ∧ (∃ d, d ≤ 4 * T.ht ∧ IsSt w' sb g tb nd ck T (n + d)) ∧ Keeps (Of sb g tb) w w' := by
 have b0 := bnew w (.cells #[.string lo, .string hi, .bool op] 40)
 have b1 := bnew (w.alloc (.cells #[.string lo, .string hi, .bool op] 40)) (.cells #[.int .i64 0, .int .u64 0, .int .u64 0] 45)
 have B := aside (bthen b0 b1)
 have G0 := aside (blk_on (heap_alloc_new w (.cells #[.string lo, .string hi, .bool op] 40)) b1)
 have g1 := heap_alloc_new (w.alloc (.cells #[.string lo, .string hi, .bool op] 40)) (.cells #[.int .i64 0, .int .u64 0, .int .u64 0] 45)
 simp only [World.size_alloc] at g1
 have G1 := aside g1
 have H := aside (h.below B.out)
 have C1 := aside (fun (W : World) => check_any lo hi op W)
 have CR := aside (fun (W : World) (h : IsSt W sb g tb nd ck T n) => srows lo hi op h hH hl)
 have CF := aside (fun (W : World) (h : IsSt W sb g tb nd ck T n) => yfoldE (belE lo Ls : Int) (endE hi op Ls : Int) h.tree (bothJv g) h.cnt hH.gd (by omega))
 have HD := aside (Tr.folC_le T (belE lo Ls : Int) (endE hi op Ls : Int))
 have HV : Hid (Rg.chk ⟨lo, hi, op⟩ = 0 → Tr.fol tJoin tZero T (belE lo Ls : Int) (endE hi op Ls : Int) = foldV lo hi op Ls) := fun h0 => by
  unfold foldV
  rw [if_pos h0, hH.fold _ _ (endE_le _ _ _), seg_range hH.rises (chk_may h0)]
 have HZ : Hid (Rg.chk ⟨lo, hi, op⟩ ≠ 0 → foldV lo hi op Ls = tZero) := fun h0 => by unfold foldV; rw [if_neg h0]
 obtain ⟨c, hc⟩ : ∃ c, Rg.chk ⟨lo, hi, op⟩ = c := ⟨_, rfl⟩
 rw [hc] at C1 HV HZ ⊢
 generalize Tr.folC T (belE lo Ls : Int) (endE hi op Ls : Int) = d at *
 generalize Tr.fol tJoin tZero T (belE lo Ls : Int) (endE hi op Ls : Int) = fv at *
 generalize foldV lo hi op Ls = rv at *
 generalize (belE lo Ls : Int) = a at *
 generalize (endE hi op Ls : Int) = b at *
 clear h hH hl hc b0 b1 g1
 obtain ⟨q0, q1, q2, -⟩ := tri G0.out
 by_cases h0 : c = 0
 ·have hrv := HV.out h0
  subst hrv
  subst h0
  go_enter Tryz.func25, Tryz.ntmps25
  go_wp2_with fail
  refine (C1.out _).mono ?_
  rintro e w1 ⟨rfl, b1⟩
  have H1 := aside (H.out.below b1)
  have G1' := aside (blk_on G1.out b1)
  have B1 := aside (bthen B.out b1)
  obtain ⟨r0, r1, r2, -⟩ := tri (blk_on G0.out b1)
  clear b1 H G1 G0 B C1 q0 q1 q2
  go_wp2_with fail
  refine (CR.out _ H1.out).mono ?_
  rintro e w2 ⟨rfl, b2⟩
  have H2 := aside (H1.out.below b2)
  have G2 := aside (blk_on G1'.out b2)
  have B2 := aside (bthen B1.out b2)
  obtain ⟨-, -, -, c3, -⟩ := quad H2.out.blk
  clear b2 H1 G1' B1 CR r0 r1 r2
  go_wp2_with fail
  refine (CF.out _ H2.out).mono ?_
  rintro e w3 ⟨rfl, hc3, k3⟩
  have H3 : Hid (IsSt w3 sb g tb nd ck T (n + d)) := ⟨blk_keep H2.out.blk k3 (fun e => H2.out.apart.1 (Option.some.inj e).symm), hc3, H2.out.tree.onC H2.out.cnt k3⟩
  have G3 := aside (blk_keep G2.out k3 (fun e => H2.out.not G2.out (by decide) (by decide) (by decide) (.inr (.inr (Option.some.inj e).symm))))
  have K3 := aside ((Keeps.of_below B2.out (Of sb g tb)).trans (k3.mono (fun _ _ e => .inr (.inr (Option.some.inj e).symm))))
  clear hc3 k3 c3 CF H2 G2 B2
  obtain ⟨s0, s1, s2, z0, z1, z2⟩ := tri G3.out
  have E := aside (fold_end (m := 0) H3.out K3.out G3.out fv)
  unfold set3 at E
  go_wp2
  exact bodyPost_ret (v := .tuple #[.agg #[.int .i64 fv.n, .int .u64 fv.a, .int .u64 fv.b], .int .i64 0]) (by simp [results, Tryz.results25, go_sem, s0, s1, s2]) rfl ⟨rfl, ⟨d, HD.out, E.out.1⟩, E.out.2⟩
 ·have hz := HZ.out h0
  have h0' : (c == 0) = false := beq_eq_false_iff_ne.2 h0
  subst hz
  rw [tZero_n, tZero_a, tZero_b]
  go_enter Tryz.func25, Tryz.ntmps25
  go_wp2_with fail
  refine (C1.out _).mono ?_
  rintro e w1 ⟨rfl, b1⟩
  have H1 := aside (H.out.below b1)
  have G1' := aside (blk_on G1.out b1)
  have B1 := aside (bthen B.out b1)
  obtain ⟨s0, s1, s2, z0, z1, z2⟩ := tri G1'.out
  have E := aside (fold_end (m := 0) H1.out (Keeps.of_below B1.out _) G1'.out tZero)
  unfold set3 at E
  rw [tZero_n, tZero_a, tZero_b] at E
  clear b1 H G1 G0 B C1 q0 q1 q2
  go_wp2
  exact bodyPost_ret (v := .tuple #[.agg #[.int .i64 0, .int .u64 0, .int .u64 0], .int .i64 c]) (by simp [results, Tryz.results25, go_sem, s0, s1, s2]) rfl ⟨rfl, ⟨0, Nat.zero_le _, E.out.1⟩, E.out.2⟩
def tkSay (e : En) (Ls : List En) : Int × Bool :=
 if e.chk ≠ 0 then (e.chk, false) else if roomB e.k Ls = false then (80, false) else
  match lookE e.k Ls with
  | none => (0, true)
  | some o => (0, En.newer e o)
theorem old_lay {w X : World} {sb g tb ob : Nat} {nd ck : Int} {T : Tr En Tl} {n : Nat} {cs : Array Value} {x0 x1 x2 x3 x4 : Value} {o : En} (h : IsSt X sb g tb nd ck T n) (b : Below w.heap.size w X) (L : Lanes X) (g0 : X.heap[w.heap.size]? = some (.cells cs 77 (0, 0))) (gv : X.heap[ob]? = some (.cells #[x0, x1, x2, x3, x4] 77 (0, 0))) (hv : w.heap.size < ob) :
    (fun Y : World => IsSt Y sb g tb nd ck T n ∧ Below w.heap.size w Y ∧ Lanes Y ∧ Y.heap[w.heap.size]? = some (.cells cs 77 (0, 0)) ∧ Y.heap[ob]? = some (.cells #[.string o.k, .int .i64 o.c, .int .i64 o.n, .string o.v, .bool o.d] 77 (0, 0))) (setE X ob o) := by
 have hn := h.not gv (by decide) (by decide) (by decide)
 have kk : Keeps (fun x => x = ob) X (setE X ob o) := (Keeps.refl (fun x => x = ob) X).setE (fun _ => rfl) o
 obtain ⟨p, ht, hT⟩ := h.tree
 refine ⟨⟨(setE_other _ _ _ _ (fun e => hn (.inl e.symm))).trans h.blk, fun b' e => (setE_other _ _ _ _ (fun e2 => hn (.inr (.inr (by cases e; exact e2.symm))))).trans (h.cnt b' e), ⟨p, (setE_other _ _ _ _ (fun e => hn (.inr (.inl e.symm)))).trans ht, hT.on ((Stay.refl _ X).keeps kk (fun i cs' hi e => by subst e; rw [gv] at hi; simp at hi))⟩⟩, ?_, L.keeps kk (fun e => ?_), (setE_other _ _ _ _ (by omega)).trans g0, setE_same gv o⟩
 ·have k2 : Keeps (fun x => w.heap.size ≤ x) X (setE X ob o) := kk.mono (fun _ _ e => by subst e; omega)
  exact b.trans (k2.below b.size (fun k hk e => by omega))
 ·have h3 := L.c5
  rw [show World.cell? X ⟨0, 5, none⟩ = none from by rw [← e] at gv; simp [World.cell?, gv]] at h3
  cases h3
set_option maxHeartbeats 3200000 in
set_option maxRecDepth 100000 in
theorem stake (e : En) {Ls : List En} {w : World} {sb g tb : Nat} {nd ck : Int} {T : Tr En Tl} {n : Nat} (h : IsSt w sb g tb nd ck T n) (L : Lanes w) (hH : Hol T Ls) (hl : Ls.length ≤ 1000000) :
    Calls Tryz.prog 96 #[.pointer (some ⟨sb, 0, none⟩), .agg #[.string e.k, .int .i64 e.c, .int .i64 e.n, .string e.v, .bool e.d]] w fun r w' => r = .returned (.tuple #[.bool (tkSay e Ls).2, .int .i64 (tkSay e Ls).1]) ∧ Keeps (Of sb g tb) w w' ∧
     (((tkSay e Ls).2 = false ∧ IsSt w' sb g tb nd ck T n) ∨ ((tkSay e Ls).2 = true ∧ IsSt w' sb g tb nd (ckm ck e.c) (Tr.put e.k e (tof e) T) (n + Tr.putC e.k e (tof e) T))) := by
 have B0 := aside (bnew w (.cells #[.string e.k, .int .i64 e.c, .int .i64 e.n, .string e.v, .bool e.d] 77))
 have G0 := aside (heap_alloc_new w (.cells #[.string e.k, .int .i64 e.c, .int .i64 e.n, .string e.v, .bool e.d] 77))
 have H := aside (h.alloc (.cells #[.string e.k, .int .i64 e.c, .int .i64 e.n, .string e.v, .bool e.d] 77))
 have LL := aside (L.keep B0.out)
 obtain ⟨q0, q1, q2, q3, q4, -⟩ := penta G0.out
 obtain ⟨c, hc⟩ : ∃ c, e.chk = c := ⟨_, rfl⟩
 have CK := aside (fun (W : World) => ichk_any e.k e.c e.n e.v e.d W)
 rw [show En.chk ⟨e.k, e.c, e.n, e.v, e.d⟩ = c from hc] at CK
 by_cases h0 : c = 0
 ·subst h0
  have hkk : e.k.size ≤ 16 := by
   by_cases hx : (16 : Int) < e.k.size
   ·unfold En.chk at hc; rw [if_pos hx] at hc; cases hc
   ·omega
  have CR := aside (fun (W : World) (h : IsSt W sb g tb nd ck T n) => sroom e.k h hH hl)
  cases h3 : roomB e.k Ls
  ·have ht : tkSay e Ls = (80, false) := by unfold tkSay; rw [if_neg (by rw [hc]; decide), if_pos h3]
   have HT := aside ht
   rw [h3] at CR
   clear h L hH hl hc h3 ht
   go_enter Tryz.func96, Tryz.ntmps96
   go_wp2_with fail
   refine (CK.out _).mono ?_
   rintro r w1 ⟨rfl, b1⟩
   have H1 := aside (H.out.below b1)
   have B1 := aside (bthen B0.out b1)
   obtain ⟨p0, -⟩ := penta (blk_on G0.out b1)
   clear b1 q0 q1 q2 q3 q4
   go_wp2_with fail
   refine (CR.out _ H1.out).mono ?_
   rintro r w2 ⟨rfl, b2⟩
   have H2 := aside (H1.out.below b2)
   have B2 := aside (bthen B1.out b2)
   clear b2
   have ht := HT.out
   go_wp2
   go_ret2
   exact ⟨by rw [ht]; rfl, Keeps.of_below B2.out _, .inl ⟨by rw [ht], H2.out⟩⟩
  ·rw [h3] at CR
   have CH := aside (fun (W : World) (h : IsSt W sb g tb nd ck T n) (hL : Lanes W) => shold e h hL hH hl (by omega))
   cases hL : lookE e.k Ls with
   | none =>
    have HT := aside (show tkSay e Ls = (0, true) from by unfold tkSay; rw [if_neg (by rw [hc]; decide), if_neg (by rw [h3]; decide), hL])
    obtain ⟨o, ho⟩ : ∃ o, (lookE e.k Ls).getD eNone = o := ⟨_, rfl⟩
    have CG := aside (fun (W : World) (h : TreeE W tb (jvE g) T) => yget_at e.k h hH hl ho (show (lookE e.k Ls).isSome = false from by rw [hL]; rfl))
    clear h L hH hl hc h3 hL ho
    go_enter Tryz.func96, Tryz.ntmps96
    go_wp2_with fail
    refine (CK.out _).mono ?_
    rintro r w0 ⟨rfl, b0⟩
    have H0 := aside (H.out.below b0)
    have B0' := aside (bthen B0.out b0)
    have G00 := aside (blk_on G0.out b0)
    have L0 := aside (LL.out.keep b0)
    obtain ⟨p0, -⟩ := penta G00.out
    clear b0 q0 q1 q2 q3 q4
    go_wp2_with fail
    refine (CR.out _ H0.out).mono ?_
    rintro r w1 ⟨rfl, b1⟩
    have H1 := aside (H0.out.below b1)
    have B1 := aside (bthen B0'.out b1)
    have G01 := aside (blk_on G00.out b1)
    have L1 := aside (L0.out.keep b1)
    clear b1 p0 H0 B0' G00 L0 H B0 G0 LL CK CR
    go_wp2_with fail
    refine wp_region_held_drew (S := fun X => X.cell? ⟨sb, 3, none⟩ = some (.pointer (some ⟨tb, 0, none⟩)) ∧ X.cell? ⟨w.heap.size, 0, none⟩ = some (.string e.k) ∧ X.cell? ⟨w.heap.size, 1, none⟩ = some (.int .i64 e.c) ∧ X.cell? ⟨w.heap.size, 2, none⟩ = some (.int .i64 e.n) ∧ X.cell? ⟨w.heap.size, 3, none⟩ = some (.string e.v) ∧ X.cell? ⟨w.heap.size, 4, none⟩ = some (.bool e.d)) (by kernel_rfl) (held_hold H1.out.drew G01.out) (fun hHeld => ?_)
    refine tk 0 rfl _ ?_; refine tk 1 rfl _ ?_; refine tk 2 rfl _ ?_; refine tk 3 rfl _ ?_; refine tk 4 rfl _ ?_; refine tk 5 rfl _ ?_
    refine wpAnyH_ready (rs := [6, 10]) (by kernel_rfl) (by simp) ?_
    refine AllReadyH.cons rfl (fun K hK => ?_) (AllReadyH.cons rfl (fun K hK => ?_) AllReadyH.nil)
    ·go_simp
     refine (CG.out _ H1.out.drew.tree).mono ?_
     rintro r w9 ⟨rfl, bb⟩
     have HX := aside (H1.out.drew.below bb)
     have G0X := aside (blk_on (show w1.drew.heap[w.heap.size]? = some _ from G01.out) bb)
     refine hK.out _ _ (held_hold HX.out G0X.out) (fun hHeld => ?_)
     clear hK K
     have H2 := aside (HX.out.alloc (.cells #[.string o.k, .int .i64 o.c, .int .i64 o.n, .string o.v, .bool o.d] 77))
     have B2 := aside (bthen (bthen B1.out.drew bb) (bnew _ (.cells #[.string o.k, .int .i64 o.c, .int .i64 o.n, .string o.v, .bool o.d] 77)))
     have G02 := aside (blk_on G0X.out (bnew _ (.cells #[.string o.k, .int .i64 o.c, .int .i64 o.n, .string o.v, .bool o.d] 77)))
     have L2 := aside ((L1.out.drew.keep bb).keep (bnew _ (.cells #[.string o.k, .int .i64 o.c, .int .i64 o.n, .string o.v, .bool o.d] 77)))
     have GO := aside (heap_alloc_new w9 (.cells #[.string o.k, .int .i64 o.c, .int .i64 o.n, .string o.v, .bool o.d] 77))
     clear bb
     refine tk 7 rfl _ ?_; refine tk 8 rfl _ ?_; refine tk 9 rfl _ ?_
     refine rd 10 rfl fun K hK => ?_
     go_simp
     refine hK.out _ _ (held_hold (HX.out.alloc _) (blk_on G0X.out (bnew _ _))) (fun hHeld => ?_)
     clear hK K 
     refine rd 11 rfl fun K hK => ?_
     go_simp
     refine hK.out _ _ (held_hold (HX.out.alloc _) (blk_on G0X.out (bnew _ _))) (fun hHeld => ?_)
     clear hK K 
     refine tk 12 rfl _ ?_
     refine wpAnyH_done (by kernel_rfl) ?_ _
     clear hHeld HX G0X H1 B1 G01 L1 CG
     generalize w9.alloc (.cells #[.string o.k, .int .i64 o.c, .int .i64 o.n, .string o.v, .bool o.d] 77) = X at *
     generalize w9.heap.size = ob at *
     obtain ⟨q0, q1, q2, q3, q4, -⟩ := penta G02.out
     obtain ⟨o0, o1, o2, o3, o4, -⟩ := penta GO.out
     have ht := HT.out
     go_wp2_with fail
     refine (CH.out _ H2.out L2.out).mono ?_
     rintro r w5 ⟨rfl, h5, k5⟩
     have H5 := aside h5
     have K5 := aside ((Keeps.of_below B2.out _).trans k5)
     clear h5 k5 q0 q1 q2 q3 q4 o0 o1 o2 o3 o4
     go_wp2
     go_ret2
     exact ⟨by rw [ht]; rfl, K5.out, .inr ⟨by rw [ht], H5.out⟩⟩
    ·go_simp
     refine hK.out _ _ (held_hold (H1.out.alloc _).drew (show (w1.alloc (.cells #[.string ⟨#[]⟩, .int .i64 0, .int .i64 0, .string ⟨#[]⟩, .bool false] 77)).drew.heap[w.heap.size]? = some _ from blk_on G01.out (bnew _ _).drew)) (fun hHeld => ?_)
     clear hK K
     have HX := aside (H1.out.alloc (.cells #[.string ⟨#[]⟩, .int .i64 0, .int .i64 0, .string ⟨#[]⟩, .bool false] 77)).drew
     have GX := aside (show (w1.alloc (.cells #[.string ⟨#[]⟩, .int .i64 0, .int .i64 0, .string ⟨#[]⟩, .bool false] 77)).drew.heap[w1.heap.size]? = some (.cells #[.string ⟨#[]⟩, .int .i64 0, .int .i64 0, .string ⟨#[]⟩, .bool false] 77 (0, 0)) from heap_alloc_new w1 _)
     have BX := aside (bthen B1.out (bnew _ (.cells #[.string ⟨#[]⟩, .int .i64 0, .int .i64 0, .string ⟨#[]⟩, .bool false] 77))).drew
     have G0X := aside (show (w1.alloc (.cells #[.string ⟨#[]⟩, .int .i64 0, .int .i64 0, .string ⟨#[]⟩, .bool false] 77)).drew.heap[w.heap.size]? = some _ from blk_on G01.out (bnew _ _).drew)
     have LX := aside (L1.out.keep (bnew _ (.cells #[.string ⟨#[]⟩, .int .i64 0, .int .i64 0, .string ⟨#[]⟩, .bool false] 77))).drew
     have HV := aside (show w.heap.size < w1.heap.size from lt_of_blk G01.out)
     clear H1 B1 G01 L1
     generalize w1.heap.size = ob at *
     refine rd 6 rfl fun K hK => ?_
     go_simp
     refine (CG.out _ HX.out.tree).mono ?_
     rintro e w9 ⟨rfl, bb⟩
     refine hK.out _ _ (held_hold (HX.out.below bb) (blk_on G0X.out bb)) (fun hHeld => ?_)
     clear hK K 
     have HY := aside (HX.out.below bb)
     have GY := aside (blk_on GX.out bb)
     have BY := aside (BX.out.trans (bb.mono BX.out.size))
     have G0Y := aside (blk_on G0X.out bb)
     have LY := aside (LX.out.keep bb)
     clear bb
     refine tk 7 rfl _ ?_; refine tk 8 rfl _ ?_; refine tk 9 rfl _ ?_
     obtain ⟨u0, u1, u2, u3, u4, z0, z1, z2, z3, z4⟩ := penta GY.out
     have E9 := aside (old_lay (o := o) HY.out BY.out LY.out G0Y.out GY.out HV.out)
     unfold setE at E9
     refine rd 11 rfl fun K hK => ?_
     go_simp
     refine hK.out _ _ (held_hold E9.out.1 E9.out.2.2.2.1) (fun hHeld => ?_)
     clear hK K 
     refine tk 12 rfl _ ?_
     refine wpAnyH_done (by kernel_rfl) ?_ _
     clear hHeld u0 u1 u2 u3 u4 z0 z1 z2 z3 z4 HX GX BX G0X LX HY GY BY G0Y LY CG
     generalize ((((w9.setCell ⟨ob, 0, none⟩ (.string o.k)).setCell ⟨ob, 1, none⟩ (.int .i64 o.c)).setCell ⟨ob, 2, none⟩ (.int .i64 o.n)).setCell ⟨ob, 3, none⟩ (.string o.v)).setCell ⟨ob, 4, none⟩ (.bool o.d) = X at *
     obtain ⟨H2', B2', L2', G02', GO'⟩ := E9.out
     have H2 := aside H2'
     have B2 := aside B2'
     have L2 := aside L2'
     have G02 := aside G02'
     have GO := aside GO'
     clear H2' B2' L2' G02' GO' E9
     obtain ⟨q0, q1, q2, q3, q4, -⟩ := penta G02.out
     obtain ⟨o0, o1, o2, o3, o4, -⟩ := penta GO.out
     have ht := HT.out
     go_wp2_with fail
     refine (CH.out _ H2.out L2.out).mono ?_
     rintro r w5 ⟨rfl, h5, k5⟩
     have H5 := aside h5
     have K5 := aside ((Keeps.of_below B2.out _).trans k5)
     clear h5 k5 q0 q1 q2 q3 q4 o0 o1 o2 o3 o4
     go_wp2
     go_ret2
     exact ⟨by rw [ht]; rfl, K5.out, .inr ⟨by rw [ht], H5.out⟩⟩

   | some o =>
    obtain ⟨nw, hnw⟩ : ∃ nw, En.newer e o = nw := ⟨_, rfl⟩
    have HT := aside (show tkSay e Ls = (0, nw) from by unfold tkSay; rw [if_neg (by rw [hc]; decide), if_neg (by rw [h3]; decide), hL]; simp only [hnw])
    have CG := aside (fun (W : World) (h : TreeE W tb (jvE g) T) => yget_at (o := o) e.k h hH hl (by rw [hL]; rfl) (show (lookE e.k Ls).isSome = true from by rw [hL]; rfl))
    have CW := aside (fun (W : World) => newer_any e.k e.c e.n e.v e.d o.k o.c o.n o.v o.d nw W hnw)
    clear h L hH hl hc h3 hL hnw
    go_enter Tryz.func96, Tryz.ntmps96
    go_wp2_with fail
    refine (CK.out _).mono ?_
    rintro r w0 ⟨rfl, b0⟩
    have H0 := aside (H.out.below b0)
    have B0' := aside (bthen B0.out b0)
    have G00 := aside (blk_on G0.out b0)
    have L0 := aside (LL.out.keep b0)
    obtain ⟨p0, -⟩ := penta G00.out
    clear b0 q0 q1 q2 q3 q4
    go_wp2_with fail
    refine (CR.out _ H0.out).mono ?_
    rintro r w1 ⟨rfl, b1⟩
    have H1 := aside (H0.out.below b1)
    have B1 := aside (bthen B0'.out b1)
    have G01 := aside (blk_on G00.out b1)
    have L1 := aside (L0.out.keep b1)
    clear b1 p0 H0 B0' G00 L0 H B0 G0 LL CK CR
    go_wp2_with fail
    refine wp_region_held_drew (S := fun X => X.cell? ⟨sb, 3, none⟩ = some (.pointer (some ⟨tb, 0, none⟩)) ∧ X.cell? ⟨w.heap.size, 0, none⟩ = some (.string e.k) ∧ X.cell? ⟨w.heap.size, 1, none⟩ = some (.int .i64 e.c) ∧ X.cell? ⟨w.heap.size, 2, none⟩ = some (.int .i64 e.n) ∧ X.cell? ⟨w.heap.size, 3, none⟩ = some (.string e.v) ∧ X.cell? ⟨w.heap.size, 4, none⟩ = some (.bool e.d)) (by kernel_rfl) (held_hold H1.out.drew G01.out) (fun hHeld => ?_)
    refine tk 0 rfl _ ?_; refine tk 1 rfl _ ?_; refine tk 2 rfl _ ?_; refine tk 3 rfl _ ?_; refine tk 4 rfl _ ?_; refine tk 5 rfl _ ?_
    refine wpAnyH_ready (rs := [6, 10]) (by kernel_rfl) (by simp) ?_
    refine AllReadyH.cons rfl (fun K hK => ?_) (AllReadyH.cons rfl (fun K hK => ?_) AllReadyH.nil)
    ·go_simp
     refine (CG.out _ H1.out.drew.tree).mono ?_
     rintro r w9 ⟨rfl, bb⟩
     have HX := aside (H1.out.drew.below bb)
     have G0X := aside (blk_on (show w1.drew.heap[w.heap.size]? = some _ from G01.out) bb)
     refine hK.out _ _ (held_hold HX.out G0X.out) (fun hHeld => ?_)
     clear hK K
     have H2 := aside (HX.out.alloc (.cells #[.string o.k, .int .i64 o.c, .int .i64 o.n, .string o.v, .bool o.d] 77))
     have B2 := aside (bthen (bthen B1.out.drew bb) (bnew _ (.cells #[.string o.k, .int .i64 o.c, .int .i64 o.n, .string o.v, .bool o.d] 77)))
     have G02 := aside (blk_on G0X.out (bnew _ (.cells #[.string o.k, .int .i64 o.c, .int .i64 o.n, .string o.v, .bool o.d] 77)))
     have L2 := aside ((L1.out.drew.keep bb).keep (bnew _ (.cells #[.string o.k, .int .i64 o.c, .int .i64 o.n, .string o.v, .bool o.d] 77)))
     have GO := aside (heap_alloc_new w9 (.cells #[.string o.k, .int .i64 o.c, .int .i64 o.n, .string o.v, .bool o.d] 77))
     clear bb
     refine tk 7 rfl _ ?_; refine tk 8 rfl _ ?_; refine tk 9 rfl _ ?_
     refine rd 10 rfl fun K hK => ?_
     go_simp
     refine hK.out _ _ (held_hold (HX.out.alloc _) (blk_on G0X.out (bnew _ _))) (fun hHeld => ?_)
     clear hK K 
     refine rd 11 rfl fun K hK => ?_
     go_simp
     refine hK.out _ _ (held_hold (HX.out.alloc _) (blk_on G0X.out (bnew _ _))) (fun hHeld => ?_)
     clear hK K 
     refine tk 12 rfl _ ?_
     refine wpAnyH_done (by kernel_rfl) ?_ _
     clear hHeld HX G0X H1 B1 G01 L1 CG
     generalize w9.alloc (.cells #[.string o.k, .int .i64 o.c, .int .i64 o.n, .string o.v, .bool o.d] 77) = X at *
     generalize w9.heap.size = ob at *
     obtain ⟨q0, q1, q2, q3, q4, -⟩ := penta G02.out
     obtain ⟨o0, o1, o2, o3, o4, -⟩ := penta GO.out
     go_wp2_with fail
     refine (CW.out _).mono ?_
     rintro r w4 ⟨rfl, b4⟩
     have H4 := aside (H2.out.below b4)
     have B4 := aside (bthen B2.out b4)
     have L4 := aside (L2.out.keep b4)
     obtain ⟨p0, p1, p2, p3, p4, -⟩ := penta (blk_on G02.out b4)
     clear b4 q0 q1 q2 q3 q4 o0 o1 o2 o3 o4
     cases nw with
     | false =>
      have ht := HT.out
      go_wp2
      go_ret2
      exact ⟨by rw [ht]; rfl, Keeps.of_below B4.out _, .inl ⟨by rw [ht], H4.out⟩⟩
     | true =>
      have ht := HT.out
      go_wp2_with fail
      refine (CH.out _ H4.out L4.out).mono ?_
      rintro r w5 ⟨rfl, h5, k5⟩
      have H5 := aside h5
      have K5 := aside ((Keeps.of_below B4.out _).trans k5)
      clear h5 k5
      go_wp2
      go_ret2
      exact ⟨by rw [ht]; rfl, K5.out, .inr ⟨by rw [ht], H5.out⟩⟩
    ·go_simp
     refine hK.out _ _ (held_hold (H1.out.alloc _).drew (show (w1.alloc (.cells #[.string ⟨#[]⟩, .int .i64 0, .int .i64 0, .string ⟨#[]⟩, .bool false] 77)).drew.heap[w.heap.size]? = some _ from blk_on G01.out (bnew _ _).drew)) (fun hHeld => ?_)
     clear hK K
     have HX := aside (H1.out.alloc (.cells #[.string ⟨#[]⟩, .int .i64 0, .int .i64 0, .string ⟨#[]⟩, .bool false] 77)).drew
     have GX := aside (show (w1.alloc (.cells #[.string ⟨#[]⟩, .int .i64 0, .int .i64 0, .string ⟨#[]⟩, .bool false] 77)).drew.heap[w1.heap.size]? = some (.cells #[.string ⟨#[]⟩, .int .i64 0, .int .i64 0, .string ⟨#[]⟩, .bool false] 77 (0, 0)) from heap_alloc_new w1 _)
     have BX := aside (bthen B1.out (bnew _ (.cells #[.string ⟨#[]⟩, .int .i64 0, .int .i64 0, .string ⟨#[]⟩, .bool false] 77))).drew
     have G0X := aside (show (w1.alloc (.cells #[.string ⟨#[]⟩, .int .i64 0, .int .i64 0, .string ⟨#[]⟩, .bool false] 77)).drew.heap[w.heap.size]? = some _ from blk_on G01.out (bnew _ _).drew)
     have LX := aside (L1.out.keep (bnew _ (.cells #[.string ⟨#[]⟩, .int .i64 0, .int .i64 0, .string ⟨#[]⟩, .bool false] 77))).drew
     have HV := aside (show w.heap.size < w1.heap.size from lt_of_blk G01.out)
     clear H1 B1 G01 L1
     generalize w1.heap.size = ob at *
     refine rd 6 rfl fun K hK => ?_
     go_simp
     refine (CG.out _ HX.out.tree).mono ?_
     rintro e w9 ⟨rfl, bb⟩
     refine hK.out _ _ (held_hold (HX.out.below bb) (blk_on G0X.out bb)) (fun hHeld => ?_)
     clear hK K 
     have HY := aside (HX.out.below bb)
     have GY := aside (blk_on GX.out bb)
     have BY := aside (BX.out.trans (bb.mono BX.out.size))
     have G0Y := aside (blk_on G0X.out bb)
     have LY := aside (LX.out.keep bb)
     clear bb
     refine tk 7 rfl _ ?_; refine tk 8 rfl _ ?_; refine tk 9 rfl _ ?_
     obtain ⟨u0, u1, u2, u3, u4, z0, z1, z2, z3, z4⟩ := penta GY.out
     have E9 := aside (old_lay (o := o) HY.out BY.out LY.out G0Y.out GY.out HV.out)
     unfold setE at E9
     refine rd 11 rfl fun K hK => ?_
     go_simp
     refine hK.out _ _ (held_hold E9.out.1 E9.out.2.2.2.1) (fun hHeld => ?_)
     clear hK K 
     refine tk 12 rfl _ ?_
     refine wpAnyH_done (by kernel_rfl) ?_ _
     clear hHeld u0 u1 u2 u3 u4 z0 z1 z2 z3 z4 HX GX BX G0X LX HY GY BY G0Y LY CG
     generalize ((((w9.setCell ⟨ob, 0, none⟩ (.string o.k)).setCell ⟨ob, 1, none⟩ (.int .i64 o.c)).setCell ⟨ob, 2, none⟩ (.int .i64 o.n)).setCell ⟨ob, 3, none⟩ (.string o.v)).setCell ⟨ob, 4, none⟩ (.bool o.d) = X at *
     obtain ⟨H2', B2', L2', G02', GO'⟩ := E9.out
     have H2 := aside H2'
     have B2 := aside B2'
     have L2 := aside L2'
     have G02 := aside G02'
     have GO := aside GO'
     clear H2' B2' L2' G02' GO' E9
     obtain ⟨q0, q1, q2, q3, q4, -⟩ := penta G02.out
     obtain ⟨o0, o1, o2, o3, o4, -⟩ := penta GO.out
     go_wp2_with fail
     refine (CW.out _).mono ?_
     rintro r w4 ⟨rfl, b4⟩
     have H4 := aside (H2.out.below b4)
     have B4 := aside (bthen B2.out b4)
     have L4 := aside (L2.out.keep b4)
     obtain ⟨p0, p1, p2, p3, p4, -⟩ := penta (blk_on G02.out b4)
     clear b4 q0 q1 q2 q3 q4 o0 o1 o2 o3 o4
     cases nw with
     | false =>
      have ht := HT.out
      go_wp2
      go_ret2
      exact ⟨by rw [ht]; rfl, Keeps.of_below B4.out _, .inl ⟨by rw [ht], H4.out⟩⟩
     | true =>
      have ht := HT.out
      go_wp2_with fail
      refine (CH.out _ H4.out L4.out).mono ?_
      rintro r w5 ⟨rfl, h5, k5⟩
      have H5 := aside h5
      have K5 := aside ((Keeps.of_below B4.out _).trans k5)
      clear h5 k5
      go_wp2
      go_ret2
      exact ⟨by rw [ht]; rfl, K5.out, .inr ⟨by rw [ht], H5.out⟩⟩

 ·have ht : tkSay e Ls = (c, false) := by unfold tkSay; rw [if_pos (by rw [hc]; exact h0), hc]
  have h0' : (c == 0) = false := beq_eq_false_iff_ne.2 h0
  have HT := aside ht
  clear h L hH hl hc h0 ht
  go_enter Tryz.func96, Tryz.ntmps96
  go_wp2_with fail
  refine (CK.out _).mono ?_
  rintro r w1 ⟨rfl, b1⟩
  have H1 := aside (H.out.below b1)
  have B1 := aside (bthen B0.out b1)
  clear b1 q0 q1 q2 q3 q4
  have ht := HT.out
  go_wp2
  go_ret2
  exact ⟨by rw [ht]; rfl, Keeps.of_below B1.out _, .inl ⟨by rw [ht], H1.out⟩⟩
end Go.Proofs.YtpbkjffiohfkcaaGreatDoor

/-
  Drop, Double, Same and All of the document's bag.
-/
import Derived.Test.YteaaamhojiognaaBgM
namespace Go.Proofs.Yteaaamhojiognaa
open Go.RowKit
set_option linter.unusedVariables false

set_option maxHeartbeats 3200000 in
theorem rdrop_no {w : World} {B b : Nat} {v : Value} {room last lost : Nat} {l : List Pk} (h : RBag w B b v room last lost l) (i : Int) (hi : i < 0 ∨ (l.length : Int) ≤ i) : Calls Try.prog 17 #[.pointer (some ⟨b, 0, none⟩), .int .i64 i] w fun e w' => e = .returned (.int .i64 161) ∧ Below w.heap.size w w' := by
  have HN := aside (rtake_no h i hi)
  clear h hi
  go_enter Try.func17, Try.ntmps17
  go_wp2_with fail
  refine HN.out.mono ?_
  rintro e w1 ⟨rfl, b1⟩
  have B1 := aside b1
  clear b1
  unfold pk0
  go_wp2
  go_ret
  exact ⟨rfl, bthen B1.out (bnew _ _)⟩
set_option maxHeartbeats 3200000 in
theorem rdrop_yes {w : World} {B b : Nat} {v : Value} {room last lost : Nat} {l : List Pk} (h : RBag w B b v room last lost l) (i : Nat) (hi : i < l.length) (h3 : lost ≤ 4611686018427387904) (hB : B ≤ w.heap.size) : Calls Try.prog 17 #[.pointer (some ⟨b, 0, none⟩), .int .i64 (i : Int)] w fun e w' => e = .returned (.int .i64 0) ∧ RemR w B b v room last (lost + 1) l i w' := by
  obtain ⟨p, hp⟩ : ∃ p, l[i]? = some p := ⟨l[i], List.getElem?_eq_getElem hi⟩
  have HN := aside (rtake_yes h i p hp hB)
  have HY := aside h3
  obtain ⟨num, frm, dst, da, dl, dc, L⟩ := p
  unfold Pk.v at HN
  dsimp only at HN
  clear h hi hp h3 hB
  go_enter Try.func17, Try.ntmps17
  go_wp2_with fail
  refine HN.out.mono ?_
  rintro e X ⟨rfl, -, v', hb, kk, hx⟩
  have bn := bnew X (.cells #[.int .i64 num, .int .i64 frm, .int .i64 dst, .slice da dl dc] 39)
  obtain ⟨Y, hY⟩ : ∃ Y, X.alloc (.cells #[.int .i64 num, .int .i64 frm, .int .i64 dst, .slice da dl dc] 39) = Y := ⟨_, rfl⟩
  rw [hY] at bn
  have HB := aside (hb.on bn)
  have KK := aside (kk.trans (Keeps.of_below bn _))
  have HX := aside hx
  obtain ⟨x0, x1, x2, x3⟩ := HB.out.cells
  have f2 := HB.out.frozen 2
  have hw : IntKind.i64.wrap ((lost : Int) + 1) = (lost : Int) + 1 := by have := HY.out; simp only [IntKind.wrap_i64]; omega
  obtain ⟨a', c', rfl, -⟩ := own_slice hb.row
  have FIN := aside (show RemR w B b v room last (lost + 1) l i (Y.setCell ⟨b, 2, none⟩ (.int .i64 ((lost : Int) + 1))) from by
    have h0 := HB.out
    have k0 : Keeps (fun x => x = b) Y (Y.setCell ⟨b, 2, none⟩ (.int .i64 ((lost : Int) + 1))) := (Keeps.refl (fun x => x = b) Y).setCell (p := ⟨b, 2, none⟩) (fun _ => rfl) _
    refine ⟨_, ⟨?_, h0.ge, ownsRow_keep h0.row k0 (fun j hj e => by subst e; exact h0.row_not hj), fun p hp => (h0.dat p hp).keep k0 (fun x hx => (h0.dat p hp).typed h0.bx (by decide) x hx), h0.le, h0.r1, h0.r2⟩, KK.out.setCell (p := ⟨b, 2, none⟩) (fun _ => .inl rfl) _, HX.out⟩
    have := bag_set (k := 2) h0.bx (.int .i64 ((lost : Int) + 1))
    simpa using this)
  clear hb kk hx HB bn
  go_wp2
  go_ret
  try rw [hY]
  exact ⟨rfl, FIN.out⟩
set_option maxHeartbeats 3200000 in
theorem rdouble_no {w : World} {B b : Nat} {v : Value} {room last lost : Nat} {l : List Pk} (h : RBag w B b v room last lost l) (i : Int) (hi : i < 0 ∨ (l.length : Int) ≤ i) : Calls Try.prog 19 #[.pointer (some ⟨b, 0, none⟩), .int .i64 i] w fun e w' => e = .returned (.tuple #[.int .i64 0, .int .i64 161]) ∧ w' = w := by
  obtain ⟨x0, x1, x2, x3⟩ := h.cells
  obtain ⟨a, c, rfl, -⟩ := own_slice h.row
  obtain ⟨n, hn⟩ : ∃ n, l.length = n := ⟨_, rfl⟩
  rw [hn] at x3 hi
  clear h hn x0 x1 x2
  by_cases h0 : i < 0
  · clear hi
    go_enter Try.func19, Try.ntmps19
    go_wp2
    go_ret2
    exact ⟨rfl, rfl⟩
  · have h1 : i ≥ (n : Int) := by rcases hi with h | h; exact absurd h h0; exact h
    clear hi
    go_enter Try.func19, Try.ntmps19
    go_wp2
    go_ret2
    exact ⟨rfl, rfl⟩
set_option maxHeartbeats 6400000 in
set_option maxRecDepth 100000 in
theorem rdouble_yes {w : World} {B b : Nat} {v : Value} {room last lost : Nat} {l : List Pk} (h : RBag w B b v room last lost l) (i : Nat) (p : Pk) (hp : l[i]? = some p) (h2 : last ≤ 4611686018427387904) (h3 : lost ≤ 4611686018427387904) (hB : B ≤ w.heap.size) : Calls Try.prog 19 #[.pointer (some ⟨b, 0, none⟩), .int .i64 (i : Int)] w fun e w' => ∃ n, e = .returned (.tuple #[.int .i64 n, .int .i64 0]) ∧ Keeps (BgS b v) w w' ∧ ∃ W, Below w.heap.size w W ∧ LaySay W B b v room last lost l p.frm p.dst p.L (.returned (.int .i64 n)) w' := by
  have hi : i < l.length := (List.getElem?_eq_some_iff.1 hp).1
  have hd := h.dat _ (List.mem_of_getElem? hp)
  obtain ⟨num, frm, dst, da, dl, dc, L⟩ := p
  obtain ⟨X, hX⟩ : ∃ X, w.alloc (.cells #[.int .i64 num, .int .i64 frm, .int .i64 dst, .slice da dl dc] 39) = X := ⟨_, rfl⟩
  obtain ⟨q, hq⟩ : ∃ q, w.heap.size = q := ⟨_, rfl⟩
  have bn := bnew w (.cells #[.int .i64 num, .int .i64 frm, .int .i64 dst, .slice da dl dc] 39)
  have kn := heap_alloc_new w (.cells #[.int .i64 num, .int .i64 frm, .int .i64 dst, .slice da dl dc] 39)
  rw [hX] at bn kn
  rw [hq] at kn
  have BN := aside bn
  have HD := aside (rlay_any (h.on bn) frm dst L (by have h7 := hd.1.1; have h8 := hd.2.1; dsimp only at h7 h8; omega) h2 h3 (by have h7 := bn.size; omega))
  have CV := aside (byIn_conv (hd.1.on bn))
  dsimp only at CV
  have KN := aside (fourB kn)
  obtain ⟨x0, x1, x2, x3⟩ := h.cells
  obtain ⟨g, c, rfl, y0, y1, y2, y3⟩ := h.at hp
  obtain ⟨n, hn⟩ : ∃ n, l.length = n := ⟨_, rfl⟩
  rw [hn] at x3 hi HD ⊢
  dsimp only at y0 y1 y2 y3 ⊢
  clear h hp hd h2 h3 hB hn x0 x1 x2 bn kn
  have hi0 : (0 : Int) ≤ (i : Int) := by omega
  have hi1 : (i : Int) < (n : Int) := by omega
  have hi2 : ¬ (i : Int) < 0 := by omega
  have hi3 : ¬ (i : Int) ≥ (n : Int) := by omega
  go_enter Try.func19, Try.ntmps19
  go_upto_region 4 with fail
  try rw [hX]
  clear hX hq y0 y1 y2 y3 x3
  obtain ⟨z0, z1, z2, z3⟩ := KN.out
  have cv := CV.out
  go_wp2_with fail
  refine HD.out.mono ?_
  rintro e Y ⟨kk, hs⟩
  obtain ⟨m, rfl⟩ := hs.ret
  have KK := aside ((Keeps.of_below BN.out (BgS b (.slice (some ⟨g, 0, none⟩) n c))).trans kk)
  have HS := aside hs
  clear kk hs z0 z1 z2 z3 cv
  go_wp2
  go_ret2
  exact ⟨m, rfl, KK.out, _, BN.out, HS.out⟩
set_option maxHeartbeats 3200000 in
set_option maxRecDepth 100000 in
theorem rsame_yes (p q : Pk) (w : World) (hpl : Pk.pl p = Pk.pl q) (hp : ByIn w p.da p.dl p.dc p.L) (hq : ByIn w q.da q.dl q.dc q.L) : Calls Try.prog 15 #[p.v, q.v] w fun e w' => e = .returned (.bool true) ∧ Below w.heap.size w w' := by
  obtain ⟨num, frm, dst, da, dl, dc, L⟩ := p
  obtain ⟨num2, frm2, dst2, da2, dl2, dc2, L2⟩ := q
  obtain ⟨e1, e2, e3, e4⟩ := pk_ext hpl
  dsimp only at e1 e2 e3 e4 hp hq
  subst e1 e2 e3 e4
  unfold Pk.v
  dsimp only
  obtain ⟨X, hX⟩ : ∃ X, (w.alloc (.cells #[.int .i64 num, .int .i64 frm, .int .i64 dst, .slice da dl dc] 39)).alloc (.cells #[.int .i64 num, .int .i64 frm, .int .i64 dst, .slice da2 dl2 dc2] 39) = X := ⟨_, rfl⟩
  obtain ⟨q1, hq1⟩ : ∃ q, w.heap.size = q := ⟨_, rfl⟩
  obtain ⟨q2, hq2⟩ : ∃ q, q1 + 1 = q := ⟨_, rfl⟩
  have bn := bthen (bnew w (.cells #[.int .i64 num, .int .i64 frm, .int .i64 dst, .slice da dl dc] 39)) (bnew _ (.cells #[.int .i64 num, .int .i64 frm, .int .i64 dst, .slice da2 dl2 dc2] 39))
  have k1 := blk_on (heap_alloc_new w (.cells #[.int .i64 num, .int .i64 frm, .int .i64 dst, .slice da dl dc] 39)) (bnew _ (.cells #[.int .i64 num, .int .i64 frm, .int .i64 dst, .slice da2 dl2 dc2] 39))
  have k2 := heap_alloc_new (w.alloc (.cells #[.int .i64 num, .int .i64 frm, .int .i64 dst, .slice da dl dc] 39)) (.cells #[.int .i64 num, .int .i64 frm, .int .i64 dst, .slice da2 dl2 dc2] 39)
  rw [World.size_alloc] at k2
  rw [hX] at bn k1 k2
  rw [hq1] at k1 k2
  rw [hq2] at k2
  have BN := aside bn
  have K1 := aside (fourB k1)
  have K2 := aside (fourB k2)
  have C1 := aside (byIn_conv (hp.on bn))
  have C2 := aside (byIn_conv (hq.on bn))
  clear bn k1 k2 hp hq hpl
  go_enter Try.func15, Try.ntmps15
  go_upto_region 1 with fail
  try rw [hX]
  clear hX hq1 hq2
  obtain ⟨y0, y1, y2, y3⟩ := K1.out
  obtain ⟨z0, z1, z2, z3⟩ := K2.out
  have c1 := C1.out
  have c2 := C2.out
  go_wp2
  go_ret
  exact ⟨rfl, BN.out⟩
end Go.Proofs.Yteaaamhojiognaa

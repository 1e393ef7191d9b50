/-
  Take, Drop, Double and Send of the code's bag.
-/
import Derived.Test.YteaaamhojiognaaBgF
namespace Go.Proofs.Yteaaamhojiognaa
open Go.RowKit
set_option linter.unusedVariables false

/-- The zero packet. -/
def pk0 : Value := .agg #[.int .i64 0, .int .i64 0, .int .i64 0, .slice none 0 0]
theorem AddSay.ret {w : World} {B b : Nat} {v : Value} {room last lost : Nat} {l : List Pk} {frm dst : Int} {L : List UInt8} {e : Ending} {w' : World} (h : AddSay w B b v room last lost l frm dst L e w') : ∃ n, e = .returned (.int .i64 n) := by
  rcases h with ⟨-, h, -⟩ | ⟨-, h, -⟩
  · exact ⟨_, h⟩
  · exact ⟨_, h⟩
/-- The packet at a place, in the bag's row. -/
theorem BagAt.at {w : World} {B b : Nat} {v : Value} {room last lost : Nat} {l : List Pk} (h : BagAt w B b v room last lost l) {i : Nat} {p : Pk} (hp : l[i]? = some p) : ∃ g c, v = .slice (some ⟨g, 0, none⟩) l.length c ∧ w.cell? ⟨g, i * 4, none⟩ = some (.int .i64 p.num) ∧ w.cell? ⟨g, i * 4 + 1, none⟩ = some (.int .i64 p.frm) ∧ w.cell? ⟨g, i * 4 + 2, none⟩ = some (.int .i64 p.dst) ∧ w.cell? ⟨g, i * 4 + 3, none⟩ = some (.slice p.da p.dl p.dc) := by
  have hi : i < l.length := (List.getElem?_eq_some_iff.1 hp).1
  obtain ⟨a, c, rfl, h1, h2, ⟨h3, h4, h5⟩ | ⟨g, rfl, hb, hg⟩⟩ := own_slice h.row
  · omega
  · have := (PkIn.of_own h.row).at hp
    simp only [Nat.zero_add] at this
    exact ⟨g, c, rfl, this⟩
theorem Dat.far {w : World} {C : Nat} {p : Pk} (hp : Dat C w p) {B b : Nat} {v : Value} {room last lost : Nat} {l : List Pk} (h : BagAt w B b v room last lost l) : 0 < p.dl → ∀ x, p.da = some x → ¬ BgS b v x.block := by
  intro _ x hx
  have h9 := h.dat_not hp
  rcases hp.1.2 with ⟨h1, h2⟩ | ⟨g, cap, cur, h1, h2, h3, h4, h5, h6⟩
  · injection h1 with e1 e2 e3
    rw [hx] at e1
    cases e1
  · injection h1 with e1 e2 e3
    rw [hx] at e1
    injection e1 with e1
    subst e1
    exact h9 g (by rw [hx]; rfl)

set_option maxHeartbeats 3200000 in
theorem bdouble_no {w : World} {B b : Nat} {v : Value} {room last lost : Nat} {l : List Pk} (h : BagAt w B b v room last lost l) (i : Int) (hi : i < 0 ∨ (l.length : Int) ≤ i) : Calls Try.prog 18 #[.pointer (some ⟨b, 0, none⟩), .int .i64 i] w fun e w' => e = .returned (.tuple #[.int .i64 0, .int .i64 161]) ∧ w' = w := by
  have HN := aside (bhas_no h i hi)
  clear h hi
  go_enter Try.func18, Try.ntmps18
  go_wp2_with fail
  refine HN.out.mono ?_
  rintro e w' ⟨rfl, rfl⟩
  go_wp2
  go_ret2
  exact ⟨rfl, rfl⟩
set_option maxHeartbeats 3200000 in
theorem bdrop_no {w : World} {B b : Nat} {v : Value} {room last lost : Nat} {l : List Pk} (h : BagAt w B b v room last lost l) (i : Int) (hi : i < 0 ∨ (l.length : Int) ≤ i) : Calls Try.prog 16 #[.pointer (some ⟨b, 0, none⟩), .int .i64 i] w fun e w' => e = .returned (.int .i64 161) ∧ w' = w := by
  have HN := aside (bhas_no h i hi)
  clear h hi
  go_enter Try.func16, Try.ntmps16
  go_wp2_with fail
  refine HN.out.mono ?_
  rintro e w' ⟨rfl, rfl⟩
  go_wp2
  go_ret
  exact ⟨rfl, rfl⟩
set_option maxHeartbeats 3200000 in
theorem btake_no {w : World} {B b : Nat} {v : Value} {room last lost : Nat} {l : List Pk} (h : BagAt w B b v room last lost l) (i : Int) (hi : i < 0 ∨ (l.length : Int) ≤ i) : Calls Try.prog 13 #[.pointer (some ⟨b, 0, none⟩), .int .i64 i] w fun e w' => e = .returned (.tuple #[pk0, .int .i64 161]) ∧ Below w.heap.size w w' := by
  have b1 := bnew w (.cells #[.int .i64 0, .int .i64 0, .int .i64 0, .slice none 0 0] 39)
  have k1 := heap_alloc_new w (.cells #[.int .i64 0, .int .i64 0, .int .i64 0, .slice none 0 0] 39)
  have HN := aside (bhas_no (h.on b1) i hi)
  have B1 := aside b1
  obtain ⟨d0, d1, d2, d3⟩ := fourB k1
  have f0 := frozen_of_row _ w.heap.size 0 _ _ k1
  have f1 := frozen_of_row _ w.heap.size 1 _ _ k1
  have f2 := frozen_of_row _ w.heap.size 2 _ _ k1
  have f3 := frozen_of_row _ w.heap.size 3 _ _ k1
  clear h hi b1 k1
  unfold pk0
  go_enter Try.func13, Try.ntmps13
  go_wp2_with fail
  refine HN.out.mono ?_
  rintro e w' ⟨rfl, rfl⟩
  go_wp2
  try simp only [Exit.inBlock, Exit.then]
  exact bodyPost_ret (v := .tuple #[.agg #[.int .i64 0, .int .i64 0, .int .i64 0, .slice none 0 0], .int .i64 161]) (by simp [results, Try.results13, go_sem]) rfl ⟨rfl, B1.out⟩

set_option maxHeartbeats 3200000 in
theorem bdrop_yes {w : World} {B b : Nat} {v : Value} {room last lost : Nat} {l : List Pk} (h : BagAt w B b v room last lost l) (i : Nat) (hi : i < l.length) (h3 : lost ≤ 4611686018427387904) (hB : B ≤ w.heap.size) : Calls Try.prog 16 #[.pointer (some ⟨b, 0, none⟩), .int .i64 (i : Int)] w fun e w' => e = .returned (.int .i64 0) ∧ ∃ v', BagAt w' B b v' room last (lost + 1) (l.take i ++ l.drop (i + 1)) ∧ Keeps (BgS b v) w w' ∧ ∀ j, v'.ownBlock = some j → w.heap.size ≤ j := by
  have HN := aside (bhas_yes h (i : Int) (by omega) (by omega))
  have HR := aside (bremove_any h i hi hB)
  have HY := aside h3
  clear h hi h3 hB
  go_enter Try.func16, Try.ntmps16
  go_wp2_with fail
  refine HN.out.mono ?_
  rintro e w' ⟨rfl, rfl⟩
  go_wp2_with fail
  refine HR.out.mono ?_
  rintro e X ⟨⟨u, rfl⟩, v', hb, kk, hx⟩
  have HB := aside hb
  have KK := aside kk
  have HX := aside hx
  obtain ⟨x0, x1, x2, x3⟩ := hb.cells
  have f3 := hb.frozen 3
  have hw : IntKind.i64.wrap ((lost : Int) + 1) = (lost : Int) + 1 := by have := HY.out; simp only [IntKind.wrap_i64]; omega
  obtain ⟨a', c', rfl, -⟩ := own_slice hb.row
  have FIN := aside (show ∃ v', BagAt (X.setCell ⟨b, 3, none⟩ (.int .i64 ((lost : Int) + 1))) B b v' room last (lost + 1) (l.take i ++ l.drop (i + 1)) ∧ Keeps (BgS b v) w' (X.setCell ⟨b, 3, none⟩ (.int .i64 ((lost : Int) + 1))) ∧ ∀ j, v'.ownBlock = some j → w'.heap.size ≤ j from by
    have h0 := HB.out
    have k0 : Keeps (fun x => x = b) X (X.setCell ⟨b, 3, none⟩ (.int .i64 ((lost : Int) + 1))) := (Keeps.refl (fun x => x = b) X).setCell (p := ⟨b, 3, none⟩) (fun _ => rfl) _
    refine ⟨_, ⟨?_, h0.ge, ownsRow_keep h0.row k0 (fun j hj e => by subst e; exact h0.row_not hj), fun p hp => (h0.dat p hp).keep k0 (fun j hj e => by subst e; exact own_typed (h0.dat p hp).1 h0.bx (by decide) hj), h0.le, h0.r1, h0.r2⟩, KK.out.setCell (p := ⟨b, 3, none⟩) (fun _ => .inl rfl) _, HX.out⟩
    have := bag_set (k := 3) h0.bx (.int .i64 ((lost : Int) + 1))
    simpa using this)
  clear hb kk hx HB
  go_wp2
  go_ret
  exact ⟨rfl, FIN.out⟩

set_option maxHeartbeats 6400000 in
set_option maxRecDepth 100000 in
theorem bdouble_yes {w : World} {B b : Nat} {v : Value} {room last lost : Nat} {l : List Pk} (h : BagAt w B b v room last lost l) (i : Nat) (p : Pk) (hp : l[i]? = some p) (h2 : last ≤ 4611686018427387904) (h3 : lost ≤ 4611686018427387904) (hB : B ≤ w.heap.size) : Calls Try.prog 18 #[.pointer (some ⟨b, 0, none⟩), .int .i64 (i : Int)] w fun e w' => ∃ n, e = .returned (.tuple #[.int .i64 n, .int .i64 0]) ∧ Keeps (BgS b v) w w' ∧ AddSay w B b v room last lost l p.frm p.dst p.L (.returned (.int .i64 n)) w' := by
  have hi : i < l.length := (List.getElem?_eq_some_iff.1 hp).1
  have hpm := List.mem_of_getElem? hp
  have HN := aside (bhas_yes h (i : Int) (by omega) (by omega))
  have HD := aside (badd_any h p (h.dat p hpm).byIn (h.dat p hpm).2 ((h.dat p hpm).far h) h2 h3 hB)
  obtain ⟨x0, x1, x2, x3⟩ := h.cells
  obtain ⟨g, c, rfl, y0, y1, y2, y3⟩ := h.at hp
  obtain ⟨n, hn⟩ : ∃ n, l.length = n := ⟨_, rfl⟩
  rw [hn] at x1 hi HD ⊢
  obtain ⟨num, frm, dst, da, dl, dc, L⟩ := p
  unfold Pk.v at HD
  dsimp only at y0 y1 y2 y3 HD ⊢
  clear h hp hpm h2 h3 hB hn x0 x2 x3
  have hi0 : (0 : Int) ≤ (i : Int) := by omega
  have hi1 : (i : Int) < (n : Int) := by omega
  go_enter Try.func18, Try.ntmps18
  go_wp2_with fail
  refine HN.out.mono ?_
  rintro e w' ⟨rfl, rfl⟩
  go_wp2_with fail
  refine HD.out.mono ?_
  rintro e X ⟨kk, hs⟩
  obtain ⟨m, rfl⟩ := hs.ret
  have KK := aside kk
  have HS := aside hs
  clear kk hs y0 y1 y2 y3 x1
  go_wp2
  go_ret2
  exact ⟨m, rfl, KK.out, HS.out⟩

/-- Nodes that may be. -/
def NodeOk (f t : Int) : Prop := (0 ≤ f ∧ f < 8) ∧ (0 ≤ t ∧ t < 8) ∧ ¬ f = t
set_option maxHeartbeats 3200000 in
theorem bsend_arg (b : Nat) (f t : Int) (a : Option Addr) (len cap : Nat) (h : ¬ NodeOk f t) (w : World) : Calls Try.prog 11 #[.pointer (some ⟨b, 0, none⟩), .int .i64 f, .int .i64 t, .slice a len cap] w fun e w' => e = .returned (.tuple #[.int .i64 0, .int .i64 1]) ∧ w' = w := by
  unfold NodeOk at h
  by_cases h1 : 0 ≤ f ∧ f < 8
  · by_cases h2 : 0 ≤ t ∧ t < 8
    · have h3 : f = t := by
        by_cases e : f = t
        · exact e
        · exact absurd ⟨h1, h2, e⟩ h
      subst h3
      have H1 := aside (isnode_yes f h1.1 h1.2 w)
      clear h h1 h2
      go_enter Try.func11, Try.ntmps11
      go_wp2_with fail
      refine H1.out.mono ?_
      rintro e w' ⟨rfl, rfl⟩
      go_wp2_with fail
      refine H1.out.mono ?_
      rintro e w' ⟨rfl, rfl⟩
      go_wp2
      go_ret2
      exact ⟨rfl, rfl⟩
    · have H1 := aside (isnode_yes f h1.1 h1.2 w)
      have H2 := aside (isnode_no t (by omega) w)
      clear h h1 h2
      go_enter Try.func11, Try.ntmps11
      go_wp2_with fail
      refine H1.out.mono ?_
      rintro e w' ⟨rfl, rfl⟩
      go_wp2_with fail
      refine H2.out.mono ?_
      rintro e w' ⟨rfl, rfl⟩
      go_wp2
      go_ret2
      exact ⟨rfl, rfl⟩
  · have H1 := aside (isnode_no f (by omega) w)
    clear h h1
    go_enter Try.func11, Try.ntmps11
    go_wp2_with fail
    refine H1.out.mono ?_
    rintro e w' ⟨rfl, rfl⟩
    go_wp2
    go_ret2
    exact ⟨rfl, rfl⟩
set_option maxHeartbeats 3200000 in
theorem bsend_big (b : Nat) (f t : Int) (a : Option Addr) (len cap : Nat) (h : NodeOk f t) (hl : 65536 < len) (w : World) : Calls Try.prog 11 #[.pointer (some ⟨b, 0, none⟩), .int .i64 f, .int .i64 t, .slice a len cap] w fun e w' => e = .returned (.tuple #[.int .i64 0, .int .i64 120]) ∧ w' = w := by
  obtain ⟨h1, h2, h3⟩ := h
  have H1 := aside (isnode_yes f h1.1 h1.2 w)
  have H2 := aside (isnode_yes t h2.1 h2.2 w)
  have h4 : (f == t) = false := by simpa using h3
  have h5 : (65536 : Int) < (len : Int) := by omega
  clear h1 h2 h3 hl
  go_enter Try.func11, Try.ntmps11
  go_wp2_with fail
  refine H1.out.mono ?_
  rintro e w' ⟨rfl, rfl⟩
  go_wp2_with fail
  refine H2.out.mono ?_
  rintro e w' ⟨rfl, rfl⟩
  go_wp2
  go_ret2
  exact ⟨rfl, rfl⟩
set_option maxHeartbeats 6400000 in
set_option maxRecDepth 100000 in
theorem bsend_ok {w : World} {B b : Nat} {v : Value} {room last lost : Nat} {l : List Pk} (hb : BagAt w B b v room last lost l) (f t : Int) (a : Option Addr) (len cap : Nat) (L : List UInt8) (h : NodeOk f t) (hl : len ≤ 65536) (hi : ByIn w a len cap L) (hfar : 0 < len → ∀ x, a = some x → ¬ BgS b v x.block) (h2 : last ≤ 4611686018427387904) (h3 : lost ≤ 4611686018427387904) (hB : B ≤ w.heap.size) : Calls Try.prog 11 #[.pointer (some ⟨b, 0, none⟩), .int .i64 f, .int .i64 t, .slice a len cap] w fun e w' => ∃ n, e = .returned (.tuple #[.int .i64 n, .int .i64 0]) ∧ Keeps (BgS b v) w w' ∧ AddSay w B b v room last lost l f t L (.returned (.int .i64 n)) w' := by
  have HD := aside (badd_any hb ⟨0, f, t, a, len, cap, L⟩ hi hl hfar h2 h3 hB)
  unfold Pk.v at HD
  dsimp only at HD
  obtain ⟨h1, h2, h3⟩ := h
  have H1 := aside (isnode_yes f h1.1 h1.2 w)
  have H2 := aside (isnode_yes t h2.1 h2.2 w)
  have h4 : (f == t) = false := by simpa using h3
  have h5 : ¬ ((65536 : Int) < (len : Int)) := by omega
  clear h1 h2 h3 hl hi hfar hb hB
  go_enter Try.func11, Try.ntmps11
  go_wp2_with fail
  refine H1.out.mono ?_
  rintro e w' ⟨rfl, rfl⟩
  go_wp2_with fail
  refine H2.out.mono ?_
  rintro e w' ⟨rfl, rfl⟩
  go_wp2_with fail
  refine HD.out.mono ?_
  rintro e X ⟨kk, hs⟩
  obtain ⟨m, rfl⟩ := hs.ret
  have KK := aside kk
  have HS := aside hs
  clear kk hs
  go_wp2
  go_ret2
  exact ⟨m, rfl, KK.out, HS.out⟩
end Go.Proofs.Yteaaamhojiognaa

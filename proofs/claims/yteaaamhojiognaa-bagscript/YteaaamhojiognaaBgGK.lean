/-
  Drop, Double and Send of the code's bag, and what lies in the row that they leave.
-/
import Derived.Test.YteaaamhojiognaaBgFK
namespace Go.Proofs.Yteaaamhojiognaa
open Go.RowKit
set_option linter.unusedVariables false

theorem AddSayK.ret {w : World} {B b : Nat} {v : Value} {room last lost : Nat} {l : List Pk} {frm dst : Int} {L : List UInt8} {e : Ending} {w' : World} (h : AddSayK w B b v room last lost l frm dst L e w') : ∃ n, e = .returned (.int .i64 n) := by
  rcases h with ⟨-, h, -⟩ | ⟨-, h, -⟩
  · exact ⟨_, h⟩
  · exact ⟨_, h⟩
set_option maxHeartbeats 3200000 in
theorem bdrop_keep {w : World} {B b : Nat} {v : Value} {room last lost : Nat} {l : List Pk} (h : BagAt w B b v room last lost l) (i : Nat) (hi : i < l.length) (h3 : lost ≤ 4611686018427387904) (hB : B ≤ w.heap.size) : Calls Try.prog 16 #[.pointer (some ⟨b, 0, none⟩), .int .i64 (i : Int)] w fun e w' => e = .returned (.int .i64 0) ∧ ∃ v', BagAt w' B b v' room last (lost + 1) (l.take i ++ l.drop (i + 1)) ∧ Keeps (fun x => x = b) w w' ∧ ∀ j, v'.ownBlock = some j → w.heap.size ≤ j := by
  have HN := aside (bhas_yes h (i : Int) (by omega) (by omega))
  have HR := aside (bremove_keep h i hi hB)
  have HY := aside h3
  clear h hi h3 hB
  go_enter Try.func16, Try.ntmps16
  go_wp2_with fail
  refine HN.out.mono ?_
  rintro e w' ⟨rfl, rfl⟩
  go_wp2_with fail
  refine HR.out.mono ?_
  rintro e X ⟨⟨u, rfl⟩, v', hb, kk, hx⟩
  have HB := aside hb
  have KK := aside kk
  have HX := aside hx
  obtain ⟨x0, x1, x2, x3⟩ := hb.cells
  have f3 := hb.frozen 3
  have hw : IntKind.i64.wrap ((lost : Int) + 1) = (lost : Int) + 1 := by have := HY.out; simp only [IntKind.wrap_i64]; omega
  obtain ⟨a', c', rfl, -⟩ := own_slice hb.row
  have FIN := aside (show ∃ v', BagAt (X.setCell ⟨b, 3, none⟩ (.int .i64 ((lost : Int) + 1))) B b v' room last (lost + 1) (l.take i ++ l.drop (i + 1)) ∧ Keeps (fun x => x = b) w' (X.setCell ⟨b, 3, none⟩ (.int .i64 ((lost : Int) + 1))) ∧ ∀ j, v'.ownBlock = some j → w'.heap.size ≤ j from by
    have h0 := HB.out
    have k0 : Keeps (fun x => x = b) X (X.setCell ⟨b, 3, none⟩ (.int .i64 ((lost : Int) + 1))) := (Keeps.refl (fun x => x = b) X).setCell (p := ⟨b, 3, none⟩) (fun _ => rfl) _
    refine ⟨_, ⟨?_, h0.ge, ownsRow_keep h0.row k0 (fun j hj e => by subst e; exact h0.row_not hj), fun p hp => (h0.dat p hp).keep k0 (fun j hj e => by subst e; exact own_typed (h0.dat p hp).1 h0.bx (by decide) hj), h0.le, h0.r1, h0.r2⟩, KK.out.setCell (p := ⟨b, 3, none⟩) (fun _ => rfl) _, HX.out⟩
    have := bag_set (k := 3) h0.bx (.int .i64 ((lost : Int) + 1))
    simpa using this)
  clear hb kk hx HB
  go_wp2
  go_ret
  exact ⟨rfl, FIN.out⟩

set_option maxHeartbeats 6400000 in
set_option maxRecDepth 100000 in
theorem bdouble_keep {w : World} {B b : Nat} {v : Value} {room last lost : Nat} {l : List Pk} (h : BagAt w B b v room last lost l) (i : Nat) (p : Pk) (hp : l[i]? = some p) (h2 : last ≤ 4611686018427387904) (h3 : lost ≤ 4611686018427387904) (hB : B ≤ w.heap.size) : Calls Try.prog 18 #[.pointer (some ⟨b, 0, none⟩), .int .i64 (i : Int)] w fun e w' => ∃ n, e = .returned (.tuple #[.int .i64 n, .int .i64 0]) ∧ Keeps (BgS b v) w w' ∧ AddSayK w B b v room last lost l p.frm p.dst p.L (.returned (.int .i64 n)) w' := by
  have hi : i < l.length := (List.getElem?_eq_some_iff.1 hp).1
  have hpm := List.mem_of_getElem? hp
  have HN := aside (bhas_yes h (i : Int) (by omega) (by omega))
  have HD := aside (badd_keep h p (h.dat p hpm).byIn (h.dat p hpm).2 ((h.dat p hpm).far h) h2 h3 hB)
  obtain ⟨x0, x1, x2, x3⟩ := h.cells
  obtain ⟨g, c, rfl, y0, y1, y2, y3⟩ := h.at hp
  obtain ⟨n, hn⟩ : ∃ n, l.length = n := ⟨_, rfl⟩
  rw [hn] at x1 hi HD ⊢
  obtain ⟨num, frm, dst, da, dl, dc, L⟩ := p
  unfold Pk.v at HD
  dsimp only at y0 y1 y2 y3 HD ⊢
  clear h hp hpm h2 h3 hB hn x0 x2 x3
  have hi0 : (0 : Int) ≤ (i : Int) := by omega
  have hi1 : (i : Int) < (n : Int) := by omega
  go_enter Try.func18, Try.ntmps18
  go_wp2_with fail
  refine HN.out.mono ?_
  rintro e w' ⟨rfl, rfl⟩
  go_wp2_with fail
  refine HD.out.mono ?_
  rintro e X ⟨kk, hs⟩
  obtain ⟨m, rfl⟩ := hs.ret
  have KK := aside kk
  have HS := aside hs
  clear kk hs y0 y1 y2 y3 x1
  go_wp2
  go_ret2
  exact ⟨m, rfl, KK.out, HS.out⟩

set_option maxHeartbeats 6400000 in
set_option maxRecDepth 100000 in
theorem bsend_keep {w : World} {B b : Nat} {v : Value} {room last lost : Nat} {l : List Pk} (hb : BagAt w B b v room last lost l) (f t : Int) (a : Option Addr) (len cap : Nat) (L : List UInt8) (h : NodeOk f t) (hl : len ≤ 65536) (hi : ByIn w a len cap L) (hfar : 0 < len → ∀ x, a = some x → ¬ BgS b v x.block) (h2 : last ≤ 4611686018427387904) (h3 : lost ≤ 4611686018427387904) (hB : B ≤ w.heap.size) : Calls Try.prog 11 #[.pointer (some ⟨b, 0, none⟩), .int .i64 f, .int .i64 t, .slice a len cap] w fun e w' => ∃ n, e = .returned (.tuple #[.int .i64 n, .int .i64 0]) ∧ Keeps (BgS b v) w w' ∧ AddSayK w B b v room last lost l f t L (.returned (.int .i64 n)) w' := by
  have HD := aside (badd_keep hb ⟨0, f, t, a, len, cap, L⟩ hi hl hfar h2 h3 hB)
  unfold Pk.v at HD
  dsimp only at HD
  obtain ⟨h1, h2, h3⟩ := h
  have H1 := aside (isnode_yes f h1.1 h1.2 w)
  have H2 := aside (isnode_yes t h2.1 h2.2 w)
  have h4 : (f == t) = false := by simpa using h3
  have h5 : ¬ ((65536 : Int) < (len : Int)) := by omega
  clear h1 h2 h3 hl hi hfar hb hB
  go_enter Try.func11, Try.ntmps11
  go_wp2_with fail
  refine H1.out.mono ?_
  rintro e w' ⟨rfl, rfl⟩
  go_wp2_with fail
  refine H2.out.mono ?_
  rintro e w' ⟨rfl, rfl⟩
  go_wp2_with fail
  refine HD.out.mono ?_
  rintro e X ⟨kk, hs⟩
  obtain ⟨m, rfl⟩ := hs.ret
  have KK := aside kk
  have HS := aside hs
  clear kk hs
  go_wp2
  go_ret2
  exact ⟨m, rfl, KK.out, HS.out⟩
end Go.Proofs.Yteaaamhojiognaa

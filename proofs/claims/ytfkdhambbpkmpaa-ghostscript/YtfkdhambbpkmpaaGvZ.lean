/-
  One call at both ghosts: Held.
-/
import Derived.Test.YtfkdhambbpkmpaaGvY
namespace Go.Proofs.Ytfkdhambbpkmpaa
open Go.RowKit
set_option linter.unusedVariables false

theorem Gs.heldSame {w : World} {B p m q N : Nat} {va : Value} {L : List En} {H HR : Nat → Hd} (h : Gs w B p m q N va L H HR) (node : Int) : (heldG H node).l = (heldG HR node).l := by
  unfold heldG
  split
  · exact h.same _ (by omega)
  · rfl
/-- Two rows of the same entries are the same. -/
theorem same_rows {w : World} {B1 B2 n1 n2 d1 d2 : Nat} {a1 a2 : Option Addr} {l : List En} (h1 : w.ownsRow B1 31 5 (.slice a1 n1 d1) n1 (entCells l)) (h2 : w.ownsRow B2 31 5 (.slice a2 n2 d2) n2 (entCells l)) (hk : KeysOk l) :
    Calls Try.prog 9 #[.slice a1 n1 d1, .slice a2 n2 d2] w fun e w' => e = .returned (.bool true) ∧ Below w.heap.size w w' := by
  obtain ⟨T1, e1, f1, -⟩ := entsG_of h1 hk
  obtain ⟨T2, e2, f2, -⟩ := entsG_of h2 hk
  exact same19_yes a1 n1 d1 T1 a2 n2 d2 T2 w e1 e2 (by rw [f1, f2])
set_option maxHeartbeats 8000000 in
set_option maxRecDepth 100000 in
theorem step_held {w : World} {B p m q N : Nat} {va : Value} {L : List En} {H HR : Nat → Hd} (h : Gs w B p m q N va L H HR) (o : Gop) (ho : o.In w) : Calls Try.prog 8 #[.pointer (some ⟨p, 0, none⟩), .pointer (some ⟨q, 0, none⟩), .agg #[.int .i64 3, .int .i64 o.node, .string o.e.k, .int .i64 o.e.c, .int .i64 o.e.n, .string o.e.v, .bool o.e.d, .slice o.l.a o.l.n o.l.c, .bool o.snd]] w fun e w' => e = .returned (.bool true) ∧ StepOut w w' B p m q N va L H HR := by
  have HEQ := aside (h.heldSame o.node)
  have HK := aside (mapKeys (h.g.one o.node).2.1)
  have HZ := aside (h.g.one o.node).2.2
  obtain ⟨b, hb⟩ : ∃ b, w.heap.size = b := ⟨_, rfl⟩
  obtain ⟨V, hV⟩ : ∃ V, w.alloc (.cells #[.int .i64 3, .int .i64 o.node, .string o.e.k, .int .i64 o.e.c, .int .i64 o.e.n, .string o.e.v, .bool o.e.d, .slice o.l.a o.l.n o.l.c, .bool o.snd] 34) = V := ⟨_, rfl⟩
  have kb := heap_alloc_new w (.cells #[.int .i64 3, .int .i64 o.node, .string o.e.k, .int .i64 o.e.c, .int .i64 o.e.n, .string o.e.v, .bool o.e.d, .slice o.l.a o.l.n o.l.c, .bool o.snd] 34)
  have bb := bnew w (.cells #[.int .i64 3, .int .i64 o.node, .string o.e.k, .int .i64 o.e.c, .int .i64 o.e.n, .string o.e.v, .bool o.e.d, .slice o.l.a o.l.n o.l.c, .bool o.snd] 34)
  rw [hV] at kb bb
  rw [hb] at kb
  have KB := aside kb
  have BB := aside bb
  have HG0 := aside h
  have HG := aside (h.on bb)
  have HO := aside ho
  obtain ⟨c0, c1, c2, c3, c4, c5, c6, c7, c8⟩ := nine kb
  clear h ho kb bb
  go_enter Try.func8, Try.ntmps8
  go_upto_region 1 with fail
  try rw [hV]
  try rw [hb]
  clear hV hb
  have CH := aside (fun (W : World) (b9 : Below V.heap.size V W) => gheld_any (HG.out.on b9).g o.node)
  have CR := aside (fun (W : World) (b9 : Below V.heap.size V W) => rhheld_any (HG.out.on b9).r o.node)
  generalize heldG H o.node = hd at *
  generalize heldG HR o.node = hr at *
  clear c2 c3 c4 c5 c6 c7 c8
  go_wp2_with fail
  refine (CH.out _ (Below.refl _ _)).mono ?_
  rintro r w1 ⟨a1, d1, rfl, o1, b1⟩
  have B1 := aside b1
  have O1 := aside o1
  replace c1 := cell_in c1 b1
  clear o1 b1
  go_wp2_with fail
  refine (CH.out _ B1.out).mono ?_
  rintro r w2 ⟨a2, d2, rfl, o2, b2⟩
  have B12 := aside b2
  have B2 := aside (bthen B1.out b2)
  have O2 := aside o2
  replace c1 := cell_in c1 b2
  clear o2 b2
  go_wp2_with fail
  refine (CR.out _ B2.out).mono ?_
  rintro r w3 ⟨a3, d3, rfl, o3, b3⟩
  have B23 := aside b3
  have O3 := aside (show w3.ownsRow w2.heap.size 31 5 (.slice a3 hr.n d3) hr.n (entCells hd.l) from by rw [HEQ.out]; exact o3)
  clear o3 b3 c1 CH CR
  go_wp2_with fail
  refine (same_rows (own_on O1.out (bthen B12.out B23.out)) O3.out HK.out).mono ?_
  rintro r w4 ⟨rfl, b4⟩
  have B34 := aside b4
  clear b4
  go_wp2_with fail
  refine (same_rows (own_on O2.out (bthen B23.out B34.out)) (own_on O3.out B34.out) HK.out).mono ?_
  rintro r w5 ⟨rfl, b5⟩
  have B35 := aside (bthen B34.out b5)
  clear b5
  go_wp2_with fail
  refine (spoil19_any V.heap.size hd.n _ hd.l w5 (own_on O1.out (bthen B12.out (bthen B23.out B35.out))) (bthen B2.out (bthen B23.out B35.out)).size (by have := HZ.out; omega)).mono ?_
  rintro r w6 ⟨rfl, k6⟩
  have B6 := aside (spoilt (w0 := V) (bthen B2.out (bthen B23.out B35.out)) (own_on O1.out (bthen B12.out (bthen B23.out B35.out))) k6)
  have NB := aside (show ∀ j, (Value.slice a1 hd.n d1).ownBlock = some j → j < w1.heap.size from fun j hj => by
    obtain ⟨-, cs, h3⟩ := row_blkM O1.out hj
    exact lt_of_blk h3)
  have O26 := aside (ownsRow_keep (own_on O2.out (bthen B23.out B35.out)) k6 (fun j hj h9 => by
    have h7 := NB.out j h9
    have h8 := (row_blkM O2.out hj).1
    omega))
  have O36 := aside (ownsRow_keep (own_on O3.out B35.out) k6 (fun j hj h9 => by
    have h7 := NB.out j h9
    have h8 := (row_blkM O3.out hj).1
    have h6 := B12.out.size
    omega))
  clear k6
  go_wp2_with fail
  refine (same_rows O26.out O36.out HK.out).mono ?_
  rintro r w7 ⟨rfl, b7⟩
  have FIN := aside (show StepOut w w7 B p m q N va L H HR from (HG0.out.still (bthen BB.out (bthen B6.out b7))))
  clear b7
  go_wp2
  go_ret
  exact ⟨rfl, FIN.out⟩
end Go.Proofs.Ytfkdhambbpkmpaa

/-
  Take of the code's bag, where there is such a packet.
-/
import Derived.Test.YteaaamhojiognaaBgG
namespace Go.Proofs.Yteaaamhojiognaa
open Go.RowKit
set_option linter.unusedVariables false

/-- What Take tells and leaves. -/
def TakeSay (w : World) (B b : Nat) (v : Value) (room last lost : Nat) (l : List Pk) (i : Nat) (p : Pk) (e : Ending) (w' : World) : Prop :=
  ∃ p' : Pk, e = .returned (.tuple #[Pk.v p', .int .i64 0]) ∧ Pk.pl p' = Pk.pl p ∧ Dat w.heap.size w' p' ∧ RemSay w B b v room last lost l i w'
set_option maxHeartbeats 6400000 in
set_option maxRecDepth 100000 in
theorem btake_yes {w : World} {B b : Nat} {v : Value} {room last lost : Nat} {l : List Pk} (h : BagAt w B b v room last lost l) (i : Nat) (p : Pk) (hp : l[i]? = some p) (hB : B ≤ w.heap.size) : Calls Try.prog 13 #[.pointer (some ⟨b, 0, none⟩), .int .i64 (i : Int)] w fun e w' => TakeSay w B b v room last lost l i p e w' := by
  have hi : i < l.length := (List.getElem?_eq_some_iff.1 hp).1
  have hpm := List.mem_of_getElem? hp
  have HB := aside h
  have HBS := aside hB
  have HI := aside hi
  obtain ⟨V, hV⟩ : ∃ V, w.alloc (.cells #[.int .i64 0, .int .i64 0, .int .i64 0, .slice none 0 0] 39) = V := ⟨_, rfl⟩
  obtain ⟨q4, hq4⟩ : ∃ q, w.heap.size = q := ⟨_, rfl⟩
  have b1 := bnew w (.cells #[.int .i64 0, .int .i64 0, .int .i64 0, .slice none 0 0] 39)
  have k1 := heap_alloc_new w (.cells #[.int .i64 0, .int .i64 0, .int .i64 0, .slice none 0 0] 39)
  rw [hV] at b1 k1
  rw [hq4] at k1
  have B1 := aside b1
  have K1 := aside k1
  have HQ4 := aside hq4
  have HB1 := aside (h.on b1)
  have HN := aside (bhas_yes (h.on b1) (i : Int) (by omega) (by omega))
  obtain ⟨num, frm, dst, da, dl, dc, L⟩ := p
  have HD := aside (h.dat _ hpm)
  have HA := aside (apart_any ⟨num, frm, dst, da, dl, dc, L⟩ V ((h.dat _ hpm).byIn.on b1) (h.dat _ hpm).2)
  unfold Pk.v at HA
  dsimp only at HA
  obtain ⟨x0, x1, x2, x3⟩ := (h.on b1).cells
  obtain ⟨g, c, rfl, y0, y1, y2, y3⟩ := (h.on b1).at hp
  obtain ⟨n, hn⟩ : ∃ n, l.length = n := ⟨_, rfl⟩
  rw [hn] at x1
  have hi0 : (0 : Int) ≤ (i : Int) := by omega
  have hi1 : (i : Int) < (n : Int) := by omega
  dsimp only at y0 y1 y2 y3
  clear h hp hpm hB hi hn x0 x2 x3 b1 k1
  go_enter Try.func13, Try.ntmps13
  go_upto_region 1 with fail
  try rw [hV]
  clear hV hq4
  go_wp2_with fail
  refine HN.out.mono ?_
  rintro e w' ⟨rfl, rfl⟩
  go_wp2_with fail
  refine HA.out.mono ?_
  rintro e X ⟨da', dc', rfl, dt, b2⟩
  unfold Pk.v at *
  dsimp only at *
  obtain ⟨q6, hq6⟩ : ∃ q, X.heap.size = q := ⟨_, rfl⟩
  obtain ⟨Y, hY⟩ : ∃ Y, X.alloc (.cells #[.int .i64 num, .int .i64 frm, .int .i64 dst, .slice da' dl dc'] 39) = Y := ⟨_, rfl⟩
  have b3 := bnew X (.cells #[.int .i64 num, .int .i64 frm, .int .i64 dst, .slice da' dl dc'] 39)
  have k3 := heap_alloc_new X (.cells #[.int .i64 num, .int .i64 frm, .int .i64 dst, .slice da' dl dc'] 39)
  rw [hY] at b3 k3
  rw [hq6] at k3
  have BX := aside (bthen b2 b3)
  have B3 := aside (bthen B1.out (bthen b2 b3))
  have K3 := aside k3
  have K4 := aside (blk_on K1.out (bthen b2 b3))
  have HB3 := aside (HB1.out.on (bthen b2 b3))
  have D3 := aside (dt.on b3)
  have HQ6 := aside (show q4 < q6 from by rw [← hq6]; have h1 := lt_of_blk (blk_on K1.out b2); exact h1)
  clear dt b2 b3 k3 y0 y1 y2 y3 x1
  go_upto_region 4 with fail
  try rw [hY]
  clear hY hq6
  go_wp2_with fail
  refine (bremove_any HB3.out i HI.out (by have h1 := B3.out.size; have h2 := HBS.out; omega)).mono ?_
  rintro e Z9 ⟨⟨u, rfl⟩, v', hb, kk, hx⟩
  have hnot : ∀ q, w.heap.size ≤ q → ¬ BgS b (.slice (some ⟨g, 0, none⟩) l.length c) q := fun q hq hs => by
    rcases hs with rfl | hs
    · have := lt_of_blk HB.out.bx; omega
    · have := HB.out.row.lt _ hs; omega
  have k5 := blk_keep K3.out kk (hnot q6 (by have h1 := HQ6.out; have h2 := HQ4.out; omega))
  have k6 := blk_keep K4.out kk (hnot q4 (by have h2 := HQ4.out; omega))
  obtain ⟨x0, x1, x2, x3⟩ := fourB k5
  have f0 := frozen_of_row Z9 q4 0 _ _ k6
  have f1 := frozen_of_row Z9 q4 1 _ _ k6
  have f2 := frozen_of_row Z9 q4 2 _ _ k6
  have f3 := frozen_of_row Z9 q4 3 _ _ k6
  obtain ⟨z0, z1, z2, z3⟩ := fourB k6
  have FIN := aside (show Dat w.heap.size ((((Z9.setCell ⟨q4, 0, none⟩ (.int .i64 num)).setCell ⟨q4, 1, none⟩ (.int .i64 frm)).setCell ⟨q4, 2, none⟩ (.int .i64 dst)).setCell ⟨q4, 3, none⟩ (.slice da' dl dc')) ⟨num, frm, dst, da', dl, dc', L⟩ ∧ RemSay w B b (.slice (some ⟨g, 0, none⟩) l.length c) room last lost l i ((((Z9.setCell ⟨q4, 0, none⟩ (.int .i64 num)).setCell ⟨q4, 1, none⟩ (.int .i64 frm)).setCell ⟨q4, 2, none⟩ (.int .i64 dst)).setCell ⟨q4, 3, none⟩ (.slice da' dl dc')) from by
    have k0 : Keeps (fun x => x = q4) Z9 ((((Z9.setCell ⟨q4, 0, none⟩ (.int .i64 num)).setCell ⟨q4, 1, none⟩ (.int .i64 frm)).setCell ⟨q4, 2, none⟩ (.int .i64 dst)).setCell ⟨q4, 3, none⟩ (.slice da' dl dc')) :=
      ((((Keeps.refl (fun x => x = q4) Z9).setCell (p := ⟨q4, 0, none⟩) (fun _ => rfl) _).setCell (p := ⟨q4, 1, none⟩) (fun _ => rfl) _).setCell (p := ⟨q4, 2, none⟩) (fun _ => rfl) _).setCell (p := ⟨q4, 3, none⟩) (fun _ => rfl) _
    refine ⟨?_, v', hb.keep k0 ?_ ?_ ?_, ?_, fun j hj => ?_⟩
    · have h1 := D3.out.keep kk (HB3.out.dat_not D3.out)
      exact (h1.keep k0 (fun j hj e => by subst e; exact own_typed h1.1 k6 (by decide) hj)).low (by have h2 := B1.out.size; exact h2)
    · intro e
      have h1 := lt_of_blk HB.out.bx
      have h2 := HQ4.out
      omega
    · intro j hj e
      have h1 := hx j hj
      have h2 := lt_of_blk K4.out
      omega
    · intro p hp j hj e
      subst e
      exact own_typed (hb.dat p hp).1 k6 (by decide) hj
    · refine ⟨k0.os.trans (kk.os.trans B3.out.os), k0.tape.trans (kk.tape.trans B3.out.tape), k0.output.trans (kk.output.trans B3.out.output), Nat.le_trans B3.out.size (Nat.le_trans kk.size k0.size), fun k hk hs => ?_⟩
      have h1 := B3.out.size
      have h2 := kk.size
      rw [k0.block k (by omega) (fun e => by have h2 := HQ4.out; omega), kk.block k (by omega) hs]
      exact B3.out.block k hk
    · have h1 := hx j hj
      have h2 := B3.out.size
      omega)
  obtain ⟨r0, r1, r2, r3⟩ := fourB (set_fourB k6 (.int .i64 num) (.int .i64 frm) (.int .i64 dst) (.slice da' dl dc'))
  clear hb kk hx k5 k6 hnot
  go_wp2
  try simp only [Exit.inBlock, Exit.then]
  exact bodyPost_ret (v := .tuple #[.agg #[.int .i64 num, .int .i64 frm, .int .i64 dst, .slice da' dl dc'], .int .i64 0]) (by simp [results, Try.results13, go_sem, r0, r1, r2, r3]) rfl ⟨⟨num, frm, dst, da', dl, dc', L⟩, rfl, rfl, FIN.out.1, FIN.out.2⟩
end Go.Proofs.Yteaaamhojiognaa

/-
  A pair of stores that hold the same.
-/
import Derived.Test.YtpbkjffiohfkcaaGreatDoorBs1
import Derived.Test.YtpbkjffiohfkcaaGreatDoorBs44
import Derived.Test.YtpbkjffiohfkcaaGreatDoorBs38
namespace Go.Proofs.YtpbkjffiohfkcaaGreatDoor
open Go.RowKit
set_option linter.unusedVariables false
set_option maxHeartbeats 6400000 in
set_option maxRecDepth 100000 in
theorem still13_any {w : World} {B sb g tb db : Nat} {nd ck : Int} {l : List En} (h : Pair2 w B sb g tb db nd ck l) (hm : MapL l) (hl : l.length ≤ 256) :
    Calls Tryz.prog 13 #[.agg #[.pointer (some ⟨sb, 0, none⟩), .pointer (some ⟨db, 0, none⟩)]] w fun e w' => e = .returned (.bool true) ∧ Below w.heap.size w w' := by
 have BX := aside (bnew w (.cells #[.pointer (some ⟨sb, 0, none⟩), .pointer (some ⟨db, 0, none⟩)] 29))
 have KP := aside (heap_alloc_new w (.cells #[.pointer (some ⟨sb, 0, none⟩), .pointer (some ⟨db, 0, none⟩)] 29))
 obtain ⟨X, hX⟩ : ∃ X, w.alloc (.cells #[.pointer (some ⟨sb, 0, none⟩), .pointer (some ⟨db, 0, none⟩)] 29) = X := ⟨_, rfl⟩
 rw [hX] at BX KP
 have H := aside (h.below BX.out)
 obtain ⟨a, c, hd, hA, -⟩ := H.out.doc.ents hm
 have CH := aside (fun W (b : Below X.heap.size X W) => held13_any (H.out.code.below b) hl)
 have CC := aside (fun W (b : Below X.heap.size X W) => qclock (H.out.code.below b))
 have HA := aside hA
 have HK := aside (show KeysOk l from fun e he => key_small (hm.chk e he))
 obtain ⟨d0, d1, d2⟩ := box3r hd
 obtain ⟨p0, p1⟩ := two_cells KP.out
 clear hd hA h hm hl
 go_enter Tryz.func13, Tryz.ntmps13
 go_wp2_with fail
 refine wp_region_held_drew (S := fun W => Below X.heap.size X W ∧ W.cell? ⟨w.heap.size, 0, none⟩ = some (.pointer (some ⟨sb, 0, none⟩)) ∧ W.cell? ⟨w.heap.size, 1, none⟩ = some (.pointer (some ⟨db, 0, none⟩)) ∧ W.cell? ⟨db, 1, none⟩ = some (.int .i64 ck) ∧ W.cell? ⟨db, 2, none⟩ = some (.slice a l.length c)) (by kernel_rfl) ⟨(Below.refl _ X).drew, p0, p1, d1, d2⟩ (fun hHeld => ?_)
 refine tk 0 rfl _ ?_; refine tk 1 rfl _ ?_; refine tk 3 rfl _ ?_; refine tk 4 rfl _ ?_; refine tk 5 rfl _ ?_; refine tk 6 rfl _ ?_; refine tk 7 rfl _ ?_
 clear p0 p1 d0 d1 d2
 refine rd 2 rfl fun K hK => ?_
 go_simp
 refine (CH.out _ hHeld.1).mono ?_
 rintro e w9 ⟨v1, rfl, o1, bb⟩
 refine hK.out _ _ (⟨hHeld.1.trans (bb.mono hHeld.1.size), cell_in hHeld.2.1 bb, cell_in hHeld.2.2.1 bb, cell_in hHeld.2.2.2.1 bb, cell_in hHeld.2.2.2.2 bb⟩) (fun hHeld => ?_)
 clear hK K 
 obtain ⟨a1, c1, rfl, hE1⟩ := own_ents o1 HK.out
 have CS : Hid (∀ W, Below X.heap.size X W → Below w9.heap.size w9 W → Calls Tryz.prog 17 #[.slice a1 l.length c1, .slice a l.length c] W fun e w' => e = .returned (.bool true) ∧ Below W.heap.size W w') := fun W b1 b2 => same13_yes a1 l.length c1 (nthE l) a l.length c (nthE l) W (hE1.keep b2) (HA.out.keep b1) rfl
 clear o1 hE1 CH
 refine rd 8 rfl fun K hK => ?_
 go_simp
 refine (CS.out _ hHeld.1 (Below.refl _ _)).mono ?_
 rintro e w10 ⟨rfl, b8⟩
 refine hK.out _ _ (⟨hHeld.1.trans (b8.mono hHeld.1.size), cell_in hHeld.2.1 b8, cell_in hHeld.2.2.1 b8, cell_in hHeld.2.2.2.1 b8, cell_in hHeld.2.2.2.2 b8⟩) (fun hHeld => ?_)
 clear hK K 
 refine tk 9 rfl _ ?_; refine tk 10 rfl _ ?_; refine tk 11 rfl _ ?_; refine tk 13 rfl _ ?_; refine tk 14 rfl _ ?_; refine tk 15 rfl _ ?_; refine tk 16 rfl _ ?_; refine tk 17 rfl _ ?_
 refine rd 12 rfl fun K hK => ?_
 go_simp
 refine (CC.out _ hHeld.1).mono ?_
 rintro e w11 ⟨rfl, rfl⟩
 refine hK.out _ _ (hHeld) (fun hHeld => ?_)
 clear hK K 
 refine tk 18 rfl _ ?_; refine tk 19 rfl _ ?_; refine tk 20 rfl _ ?_
 refine wpAnyH_done (by kernel_rfl) ?_ _
 have BB := aside (BX.out.trans (hHeld.1.mono BX.out.size))
 clear hHeld
 go_wp2
 go_ret
 exact ⟨rfl, BB.out⟩
end Go.Proofs.YtpbkjffiohfkcaaGreatDoor

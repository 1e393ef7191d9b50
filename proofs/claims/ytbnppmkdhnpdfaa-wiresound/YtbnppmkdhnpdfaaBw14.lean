/-
  What the laws of wire show first.
  What is known of a frame that was read.
-/
import Derived.Test.YtbnppmkdhnpdfaaBw13
import Derived.Deep.CutBlock
import Derived.Deep.DeepCutAuto
namespace Go.Proofs.Ytbnppmkdhnpdfaa
open Go.RowKit
set_option linter.unusedVariables false
theorem fchk1 : fChk 2 1 1 1 1 1 (fun _ => pm0) 0 = 0 := by decide
theorem fchk2 (ge : Nat) : fChk 2 1 1 1 1 1 (fun _ => (⟨3, ⟨#[97]⟩, ⟨#[98]⟩, false, 0, 0, 0, some ⟨ge, 0, none⟩, 1, 1, fun _ => ⟨⟨#[97]⟩, 7, 0, ⟨#[]⟩, true⟩⟩ : Pm)) 1 = 0 := by kernel_rfl
theorem fB1 : frameB (⟨2, 1, 1, 1, 1, 1, []⟩ : FV) = [2, 1, 1, 1, 1, 1, 0] := by decide
theorem fB2 : frameB (⟨2, 1, 1, 1, 1, 1, [⟨3, ⟨#[97]⟩, ⟨#[98]⟩, false, 0, 0, 0, [⟨⟨#[97]⟩, 7, 0, ⟨#[]⟩, true⟩]⟩]⟩ : FV) = [2, 1, 1, 1, 1, 1, 1, 3, 1, 97, 0, 1, 98, 1, 1, 97, 7, 0, 1] := by decide
theorem fps2 (ge : Nat) : psOf (fun _ => (⟨3, ⟨#[97]⟩, ⟨#[98]⟩, false, 0, 0, 0, some ⟨ge, 0, none⟩, 1, 1, fun _ => ⟨⟨#[97]⟩, 7, 0, ⟨#[]⟩, true⟩⟩ : Pm)) 1 = [⟨3, ⟨#[97]⟩, ⟨#[98]⟩, false, 0, 0, 0, [⟨⟨#[97]⟩, 7, 0, ⟨#[]⟩, true⟩]⟩] := by rfl
theorem fok1 : FVok (⟨2, 1, 1, 1, 1, 1, []⟩ : FV) := frame_ok (P := fun _ => pm0) fchk1 (fun i hi => by omega)
theorem fok2 : FVok (⟨2, 1, 1, 1, 1, 1, [⟨3, ⟨#[97]⟩, ⟨#[98]⟩, false, 0, 0, 0, [⟨⟨#[97]⟩, 7, 0, ⟨#[]⟩, true⟩]⟩]⟩ : FV) := frame_ok (P := (fun _ => (⟨3, ⟨#[97]⟩, ⟨#[98]⟩, false, 0, 0, 0, some ⟨0, 0, none⟩, 1, 1, fun _ => ⟨⟨#[97]⟩, 7, 0, ⟨#[]⟩, true⟩⟩ : Pm))) (fchk2 0) (fun i hi => by simp)
theorem fch2 : FV.chk (⟨2, 1, 1, 1, 1, 1, [⟨3, ⟨#[97]⟩, ⟨#[98]⟩, false, 0, 0, 0, [⟨⟨#[97]⟩, 7, 0, ⟨#[]⟩, true⟩]⟩]⟩ : FV) = 0 := by kernel_rfl
theorem fdec2 : decF [2, 1, 1, 1, 1, 1, 1, 3, 1, 97, 0, 1, 98, 1, 1, 97, 7, 0, 1] = some (⟨2, 1, 1, 1, 1, 1, [⟨3, ⟨#[97]⟩, ⟨#[98]⟩, false, 0, 0, 0, [⟨⟨#[97]⟩, 7, 0, ⟨#[]⟩, true⟩]⟩]⟩ : FV) := by rw [← fB2]; exact decF_put fok2 fch2 (by rw [fB2]; decide)
theorem fdec1 : decF [2, 1, 1, 1, 1, 1, 0, 0] = none := by
  rw [show ([2, 1, 1, 1, 1, 1, 0, 0] : List UInt8) = frameB (⟨2, 1, 1, 1, 1, 1, []⟩ : FV) ++ [0] from by rw [fB1]; rfl]
  exact decF_more fok1 (by simp)
set_option maxRecDepth 100000 in
set_option maxHeartbeats 3200000 in
theorem shown_any (w : World) : Calls Try.prog 9 #[] w fun e w' => e = .returned (.bool true) ∧ Below w.heap.size w w' := by
  have KN := aside (heap_alloc_new w (.cells #[.int .i64 1, .int .i64 1, .int .i64 1] 23))
  have BB := aside (bnew w (.cells #[.int .i64 1, .int .i64 1, .int .i64 1] 23))
  go_enter Try.func9, Try.ntmps9
  go_upto_region 2 with fail
  obtain ⟨i0, hi0⟩ : ∃ i0, w.heap.size = i0 := ⟨_, rfl⟩
  rw [hi0] at KN ⊢
  clear hi0
  generalize w.alloc (.cells #[.int .i64 1, .int .i64 1, .int .i64 1] 23) = X0 at KN BB ⊢
  have n0 : X0.cell? ⟨i0, 0, none⟩ = some (.int .i64 1) := by rw [cell_of_row _ _ 0 _ _ _ KN.out]; rfl
  have n1 : X0.cell? ⟨i0, 1, none⟩ = some (.int .i64 1) := by rw [cell_of_row _ _ 1 _ _ _ KN.out]; rfl
  have n2 : X0.cell? ⟨i0, 2, none⟩ = some (.int .i64 1) := by rw [cell_of_row _ _ 2 _ _ _ KN.out]; rfl
  go_wp2_with fail
  refine (enc_ok 2 1 1 1 1 1 none 0 0 (fun _ => pm0) X0 ⟨Nat.le_refl _, by unfold maxLen; omega, .inl rfl⟩ (by simp [totE]) fchk1 fok1 (fun i hi => by omega)).mono ?_
  rintro r X1 ⟨v1, rfl, own1, b1⟩
  rw [show psOf (fun _ => pm0) 0 = [] from rfl, fB1] at own1
  obtain ⟨g1, c1, rfl, hg1⟩ : ∃ g c, v1 = .slice (some ⟨g, 0, none⟩) 7 c ∧ g < X1.heap.size := by
    rcases own1.2 with ⟨_, h2⟩ | ⟨g, c, cur, h1, _⟩
    · cases h2
    · exact ⟨g, c, h1, by rw [h1] at own1; exact (own1.lt g rfl).2⟩
  have O1 := aside (show X1.ownsRow w.heap.size 5 1 (.slice (some ⟨g1, 0, none⟩) 7 c1) 7 (Lib.byteCells [2, 1, 1, 1, 1, 1, 0]) from own_low own1 BB.out.size)
  have HG1 := aside hg1
  replace KN := aside (blk_on KN.out b1)
  replace BB := aside (bthen BB.out b1)
  clear own1 hg1 b1 n0 n1 n2
  have KE := aside (blk_on (heap_alloc_new X1 (.cells #[.string ⟨#[97]⟩, .int .i64 7, .int .i64 0, .string ⟨#[]⟩, .bool true] 50)) (bnew _ (.cells #[.int .i64 3, .string ⟨#[97]⟩, .string ⟨#[98]⟩, .bool false, .int .i64 0, .int .u64 0, .int .u64 0, .slice (some ⟨X1.heap.size, 0, none⟩) 1 1] 46)))
  have KP := aside (heap_alloc_new (X1.alloc (.cells #[.string ⟨#[97]⟩, .int .i64 7, .int .i64 0, .string ⟨#[]⟩, .bool true] 50)) (.cells #[.int .i64 3, .string ⟨#[97]⟩, .string ⟨#[98]⟩, .bool false, .int .i64 0, .int .u64 0, .int .u64 0, .slice (some ⟨X1.heap.size, 0, none⟩) 1 1] 46))
  have bb := bthen (bnew X1 (.cells #[.string ⟨#[97]⟩, .int .i64 7, .int .i64 0, .string ⟨#[]⟩, .bool true] 50)) (bnew _ (.cells #[.int .i64 3, .string ⟨#[97]⟩, .string ⟨#[98]⟩, .bool false, .int .i64 0, .int .u64 0, .int .u64 0, .slice (some ⟨X1.heap.size, 0, none⟩) 1 1] 46))
  simp only [World.size_alloc] at KP
  replace KN := aside (blk_on KN.out bb)
  replace BB := aside (bthen BB.out bb)
  replace O1 := aside (own_on O1.out bb)
  have HS2 := aside bb.size
  go_upto_region 4 with fail
  obtain ⟨ge, hge⟩ : ∃ ge, X1.heap.size = ge := ⟨_, rfl⟩
  rw [hge] at KE KP HG1 HS2 ⊢
  obtain ⟨gp, hgp⟩ : ∃ gp, ge + 1 = gp := ⟨_, rfl⟩
  rw [hgp] at KP ⊢
  rw [hge] at KN BB O1
  clear bb hgp hge
  generalize (X1.alloc (.cells #[.string ⟨#[97]⟩, .int .i64 7, .int .i64 0, .string ⟨#[]⟩, .bool true] 50)).alloc (.cells #[.int .i64 3, .string ⟨#[97]⟩, .string ⟨#[98]⟩, .bool false, .int .i64 0, .int .u64 0, .int .u64 0, .slice (some ⟨ge, 0, none⟩) 1 1] 46) = X2 at KE KP KN BB O1 HS2 ⊢
  have n0 : X2.cell? ⟨i0, 0, none⟩ = some (.int .i64 1) := by rw [cell_of_row _ _ 0 _ _ _ KN.out]; rfl
  have n1 : X2.cell? ⟨i0, 1, none⟩ = some (.int .i64 1) := by rw [cell_of_row _ _ 1 _ _ _ KN.out]; rfl
  have n2 : X2.cell? ⟨i0, 2, none⟩ = some (.int .i64 1) := by rw [cell_of_row _ _ 2 _ _ _ KN.out]; rfl
  have p0 : X2.cell? ⟨gp, 0, none⟩ = some (.int .i64 3) := by rw [cell_of_row _ _ 0 _ _ _ KP.out]; rfl
  have p1 : X2.cell? ⟨gp, 1, none⟩ = some (.string ⟨#[97]⟩) := by rw [cell_of_row _ _ 1 _ _ _ KP.out]; rfl
  have p2 : X2.cell? ⟨gp, 2, none⟩ = some (.string ⟨#[98]⟩) := by rw [cell_of_row _ _ 2 _ _ _ KP.out]; rfl
  have p3 : X2.cell? ⟨gp, 3, none⟩ = some (.bool false) := by rw [cell_of_row _ _ 3 _ _ _ KP.out]; rfl
  have p4 : X2.cell? ⟨gp, 4, none⟩ = some (.int .i64 0) := by rw [cell_of_row _ _ 4 _ _ _ KP.out]; rfl
  have p5 : X2.cell? ⟨gp, 5, none⟩ = some (.int .u64 0) := by rw [cell_of_row _ _ 5 _ _ _ KP.out]; rfl
  have p6 : X2.cell? ⟨gp, 6, none⟩ = some (.int .u64 0) := by rw [cell_of_row _ _ 6 _ _ _ KP.out]; rfl
  have p7 : X2.cell? ⟨gp, 7, none⟩ = some (.slice (some ⟨ge, 0, none⟩) 1 1) := by rw [cell_of_row _ _ 7 _ _ _ KP.out]; rfl
  have B3 := aside (bnew X2 (.cells #[.int .i64 3, .string ⟨#[97]⟩, .string ⟨#[98]⟩, .bool false, .int .i64 0, .int .u64 0, .int .u64 0, .slice (some ⟨ge, 0, none⟩) 1 1] 46))
  have HPI := aside (show PartsIn (X2.alloc (.cells #[.int .i64 3, .string ⟨#[97]⟩, .string ⟨#[98]⟩, .bool false, .int .i64 0, .int .u64 0, .int .u64 0, .slice (some ⟨ge, 0, none⟩) 1 1] 46)) (some ⟨X2.heap.size, 0, none⟩) 1 1 (fun _ => (⟨3, ⟨#[97]⟩, ⟨#[98]⟩, false, 0, 0, 0, some ⟨ge, 0, none⟩, 1, 1, fun _ => ⟨⟨#[97]⟩, 7, 0, ⟨#[]⟩, true⟩⟩ : Pm)) from
    ⟨Nat.le_refl _, by unfold maxLen; omega, .inr ⟨X2.heap.size, 0, rfl, by rw [World.size_alloc]; omega, fun i hii => ⟨by
      obtain rfl : i = 0 := by omega
      exact oct8 (heap_alloc_new X2 (.cells #[.int .i64 3, .string ⟨#[97]⟩, .string ⟨#[98]⟩, .bool false, .int .i64 0, .int .u64 0, .int .u64 0, .slice (some ⟨ge, 0, none⟩) 1 1] 46)), ⟨Nat.le_refl _, by dsimp only; unfold maxLen; omega, .inr ⟨ge, 0, rfl, by have := (Array.getElem?_eq_some_iff.1 KE.out).1; rw [World.size_alloc]; omega, fun k hk => by
        have hk0 : k = 0 := by dsimp only at hk; omega
        subst hk0
        have h5 := blk_on KE.out B3.out
        exact ⟨⟨by rw [cell_of_row _ _ 0 _ _ _ h5]; rfl, by rw [cell_of_row _ _ 1 _ _ _ h5]; rfl, by rw [cell_of_row _ _ 2 _ _ _ h5]; rfl, by rw [cell_of_row _ _ 3 _ _ _ h5]; rfl, by rw [cell_of_row _ _ 4 _ _ _ h5]; rfl⟩, by show ByteArray.size ⟨#[97]⟩ ≤ 140737488351232; decide⟩⟩⟩⟩⟩⟩)
  go_wp2_with fail
  refine (enc_ok 2 1 1 1 1 1 (some ⟨X2.heap.size, 0, none⟩) 1 1 (fun _ => (⟨3, ⟨#[97]⟩, ⟨#[98]⟩, false, 0, 0, 0, some ⟨ge, 0, none⟩, 1, 1, fun _ => ⟨⟨#[97]⟩, 7, 0, ⟨#[]⟩, true⟩⟩ : Pm)) _ HPI.out (by simp [totE]) (fchk2 ge) (by rw [fps2]; exact fok2) (fun i hi => by simp)).mono ?_
  rintro r X4 ⟨v2, rfl, own2, b4⟩
  rw [fps2, fB2] at own2
  have HS4 := aside (show ge ≤ (X2.alloc (.cells #[.int .i64 3, .string ⟨#[97]⟩, .string ⟨#[98]⟩, .bool false, .int .i64 0, .int .u64 0, .int .u64 0, .slice (some ⟨ge, 0, none⟩) 1 1] 46)).heap.size from by have := HS2.out; rw [World.size_alloc]; omega)
  obtain ⟨g2, c2, rfl, hg2⟩ : ∃ g c, v2 = .slice (some ⟨g, 0, none⟩) 19 c ∧ ge ≤ g := by
    rcases own2.2 with ⟨_, h2⟩ | ⟨g, c, cur, h1, _⟩
    · cases h2
    · exact ⟨g, c, h1, by rw [h1] at own2; have := (own2.lt g rfl).1; have := HS4.out; omega⟩
  have HNE := aside (show g1 ≠ g2 from by have := HG1.out; omega)
  have HBX := aside (bthen BB.out B3.out).size
  replace BB := aside (bthen BB.out (bthen B3.out b4))
  have O2 := aside (show X4.ownsRow w.heap.size 5 1 (.slice (some ⟨g2, 0, none⟩) 19 c2) 19 (Lib.byteCells [2, 1, 1, 1, 1, 1, 1, 3, 1, 97, 0, 1, 98, 1, 1, 97, 7, 0, 1]) from own_low own2 HBX.out)
  replace O1 := aside (own_on O1.out (bthen B3.out b4))
  clear own2 hg2 b4 n0 n1 n2 p0 p1 p2 p3 p4 p5 p6 p7 HPI B3 KE KP KN HS4 HS2 HBX
  go_wp2_with fail
  refine (dec_any (some ⟨g2, 0, none⟩) 19 c2 [2, 1, 1, 1, 1, 1, 1, 3, 1, 97, 0, 1, 98, 1, 1, 97, 7, 0, 1] X4 (fun w' b => reads_own (own_on O2.out b)) rfl).mono ?_
  rintro r X5 ⟨b5, ⟨hd, -⟩ | ⟨F, pa, pn, pc, hd, rfl, hpr⟩⟩
  · rw [fdec2] at hd; cases hd
  rw [fdec2] at hd
  injection hd with hd
  subst hd
  dsimp only
  obtain ⟨P, hP⟩ := hpr
  obtain rfl : pn = 1 := hP.len.symm
  replace BB := aside (bthen BB.out b5)
  replace O1 := aside (own_on O1.out b5)
  replace O2 := aside (own_on O2.out b5)
  clear hP b5
  have bn := bnew X5 (.cells #[.int .i64 2, .int .i64 1, .int .i64 1, .int .i64 1, .int .i64 1, .int .i64 1, .slice pa 1 pc] 26)
  have K7 := aside (heap_alloc_new X5 (.cells #[.int .i64 2, .int .i64 1, .int .i64 1, .int .i64 1, .int .i64 1, .int .i64 1, .slice pa 1 pc] 26))
  replace BB := aside (bthen BB.out bn)
  replace O1 := aside (own_on O1.out bn)
  replace O2 := aside (own_on O2.out bn)
  clear bn
  go_upto_region 6 with fail
  obtain ⟨i7, hi7⟩ : ∃ i7, X5.heap.size = i7 := ⟨_, rfl⟩
  rw [hi7] at K7 ⊢
  clear hi7
  generalize X5.alloc (.cells #[.int .i64 2, .int .i64 1, .int .i64 1, .int .i64 1, .int .i64 1, .int .i64 1, .slice pa 1 pc] 26) = X6 at K7 BB O1 O2 ⊢
  have bn := aside (bnew X6 (.cells #[.int .u8 0] 5))
  have KZ := aside (heap_alloc_new X6 (.cells #[.int .u8 0] 5))
  replace K7 := aside (blk_on K7.out bn.out)
  replace BB := aside (bthen BB.out bn.out)
  replace O1 := aside (own_on O1.out bn.out)
  replace O2 := aside (own_on O2.out bn.out)
  go_wp2_with (at_builtin; refine wpList_plain rfl fun K hK => op_append_bytes _ _ rfl w.heap.size 7 g1 c1 (Lib.byteCells [2, 1, 1, 1, 1, 1, 0]) (by rfl) O1.out X6.heap.size 1 1 [.int .u8 0] (by rfl) (World.news_of_block (cs := #[.int .u8 0]) (t := 5) (fr := (0, 0)) KZ.out) rfl (fun u hu => by simp at hu; subst hu; rfl) (by omega) BB.out.size (by omega) ?_; intro g3 cap3 w7 own7 gr7; refine hK _ _ ?_; refine Hid.out ?_)
  refine aside ?_
  have kg : Keeps (fun x => x = g1) (X6.alloc (.cells #[.int .u8 0] 5)) w7 := by
    rcases gr7 with ⟨-, -, gr7⟩ | ⟨-, gr7⟩
    · exact (Keeps.refl _ _).grown gr7 (fun k hk _ => (Option.some.inj hk).symm)
    · exact (Keeps.refl _ _).grown gr7 (fun k hk _ => by cases hk)
  have HI7 := aside (show i7 ≠ g1 from fun e => own_nots O1.out K7.out (by decide) (by rw [e]; rfl))
  have HW1 := aside (show w.heap.size ≤ g1 from (O1.out.lt g1 rfl).1)
  have O1' := aside (show w7.ownsRow w.heap.size 5 1 (.slice (some ⟨g1, 0, none⟩) 7 c1) 7 (Lib.byteCells [2, 1, 1, 1, 1, 1, 0]) from by
    rcases gr7 with ⟨rfl, rfl, gr7⟩ | ⟨-, gr7⟩
    · exact own_pre own7 (by omega)
    · exact ownsRow_keep O1.out ((Keeps.refl (fun _ => False) _).grown gr7 (fun k hk _ => by cases hk)) (fun _ _ h => h))
  replace O2 := aside (ownsRow_keep O2.out kg (fun j hj x => by
    have h1 : g2 = j := (by simpa [Value.ownBlock] using hj)
    have := HNE.out
    omega))
  replace K7 := aside ((kg.block i7 (Array.getElem?_eq_some_iff.1 K7.out).1 (fun h => HI7.out h)).trans K7.out)
  replace BB := aside (BB.out.trans (kg.below BB.out.size (fun k hk e => by have := HW1.out; omega)))
  have O3 := aside (show w7.ownsRow w.heap.size 5 1 (.slice (some ⟨g3, 0, none⟩) 8 cap3) 8 (Lib.byteCells [2, 1, 1, 1, 1, 1, 0, 0]) from own7)
  clear kg gr7 own7 O1 HI7 HW1 HNE HG1 KZ bn
  go_wp2_with fail
  refine (dec_any (some ⟨g3, 0, none⟩) 8 cap3 [2, 1, 1, 1, 1, 1, 0, 0] w7 (fun w' b => reads_own (own_on O3.out b)) rfl).mono ?_
  rintro r X8 ⟨b8, ⟨hd, rfl⟩ | ⟨F, qa, qn, qc, hd, -⟩⟩
  rotate_left
  · rw [fdec1] at hd; cases hd
  have bx := bthen b8 (bnew X8 (.cells #[.int .i64 0, .int .i64 0, .int .i64 0, .int .i64 0, .int .i64 0, .int .i64 0, .slice none 0 0] 26))
  replace K7 := aside (blk_on K7.out bx)
  replace BB := aside (bthen BB.out bx)
  replace O1' := aside (own_on O1'.out bx)
  replace O2 := aside (own_on O2.out bx)
  clear hd b8 bx O3
  go_upto_region 7 with fail
  generalize X8.alloc (.cells #[.int .i64 0, .int .i64 0, .int .i64 0, .int .i64 0, .int .i64 0, .int .i64 0, .slice none 0 0] 26) = X9 at K7 BB O1' O2 ⊢
  have q1 := conv_own X9 w.heap.size (.slice (some ⟨g1, 0, none⟩) 7 c1) [2, 1, 1, 1, 1, 1, 0] O1'.out
  have q2 := conv_own X9 w.heap.size (.slice (some ⟨g2, 0, none⟩) 19 c2) [2, 1, 1, 1, 1, 1, 1, 3, 1, 97, 0, 1, 98, 1, 1, 97, 7, 0, 1] O2.out
  have m0 : X9.cell? ⟨i7, 0, none⟩ = some (.int .i64 2) := by rw [cell_of_row _ _ 0 _ _ _ K7.out]; rfl
  have m1 : X9.cell? ⟨i7, 1, none⟩ = some (.int .i64 1) := by rw [cell_of_row _ _ 1 _ _ _ K7.out]; rfl
  have m2 : X9.cell? ⟨i7, 2, none⟩ = some (.int .i64 1) := by rw [cell_of_row _ _ 2 _ _ _ K7.out]; rfl
  have m3 : X9.cell? ⟨i7, 3, none⟩ = some (.int .i64 1) := by rw [cell_of_row _ _ 3 _ _ _ K7.out]; rfl
  have m4 : X9.cell? ⟨i7, 4, none⟩ = some (.int .i64 1) := by rw [cell_of_row _ _ 4 _ _ _ K7.out]; rfl
  have m5 : X9.cell? ⟨i7, 5, none⟩ = some (.int .i64 1) := by rw [cell_of_row _ _ 5 _ _ _ K7.out]; rfl
  have m6 : X9.cell? ⟨i7, 6, none⟩ = some (.slice pa 1 pc) := by rw [cell_of_row _ _ 6 _ _ _ K7.out]; rfl
  go_wp2
  go_ret
  exact ⟨rfl, BB.out⟩
end Go.Proofs.Ytbnppmkdhnpdfaa
namespace Go.Proofs.Ytbnppmkdhnpdfaa
open Go.RowKit
set_option linter.unusedVariables false
theorem eFirst_nth (es : List En) : eFirst (nthE es) es.length = es := by
  apply List.ext_getElem?
  intro i
  unfold eFirst
  rw [List.getElem?_map]
  by_cases h : i < es.length
  · rw [List.getElem?_range h, nthE_get h]; rfl
  · rw [List.getElem?_eq_none (by simpa using h), List.getElem?_eq_none (by omega)]; rfl
/-- What is known of the part i of n. -/
structure SndP (P : Nat → Pm) (n i : Nat) : Prop where
  kind : 1 ≤ (P i).kind ∧ (P i).kind ≤ 3
  shut : (P i).op = false → kLt (P i).lo (P i).hi = true
  last : (P i).op = true → (P i).hi = ⟨#[]⟩ ∧ i + 1 = n
  low : ∀ j, i = j + 1 → kLt (P i).lo (P j).hi = false
  ge : ∀ k, k < (P i).el → kLt ((P i).T k).k (P i).lo = false
  lt : ∀ k, k < (P i).el → (P i).op = false → kLt ((P i).T k).k (P i).hi = true
  chk : ∀ k, k < (P i).el → ((P i).T k).chk = 0
theorem ent_facts {x : En} (h : x.chk = 0) : x.k.size ≤ 16 ∧ 1 ≤ x.c ∧ x.v.size ≤ 32 ∧ (x.d = true → x.v = ⟨#[]⟩) := by
  obtain ⟨k, c, n, v, d⟩ := x
  obtain ⟨hk, hc1, hc2, hn1, hn2, hv⟩ := En.ok_parts h
  refine ⟨hk, hc1, hv, fun hd => ?_⟩
  dsimp only at hd
  subst hd
  rw [En.chk_rest true (by omega) (chk_ok (by omega) (by omega) (by omega) (by omega)) (by omega)] at h
  have : v.toList.isEmpty = true := by
    cases hE : v.toList.isEmpty
    · rw [hE] at h; simp at h
    · rfl
  rw [ByteArray.toList_eq] at this
  obtain ⟨⟨x⟩⟩ := v
  simp at this
  rw [this]
theorem snd_part {P : Nat → Pm} {n i : Nat} (hg : ∀ i, i < n → GoodP P i) (hi : i < n) (hk : PVok (pvOf (P i))) : SndP P n i := by
  have g := hg i hi
  have hsh : (P i).op = false → kLt (P i).lo (P i).hi = true := fun ho => by
    have h1 := chk_le g.chk (show (P i).rg.op = false from ho)
    have h2 := g.emp
    unfold Rg.emp at h2
    simp only [Bool.or_eq_false_iff] at h2
    have h3 : ((P i).lo.toList == (P i).hi.toList) = false := by
      have := h2.2
      unfold Pm.rg at this
      dsimp only at this
      rw [ho] at this
      simpa using this
    unfold kLt at *
    cases e : Op.bytesLess (P i).lo.toList (P i).hi.toList
    · have := L_total _ _ e h1
      rw [this] at h3
      simp at h3
    · rfl
  refine ⟨?_, hsh, fun ho => ⟨hk.op ho, ?_⟩, fun j hj => ?_, fun k hkk => ?_, fun k hkk ho => ?_, fun k hkk => ?_⟩
  · have := hk.kind
    unfold pvOf at this
    dsimp only at this
    omega
  · apply Classical.byContradiction
    intro hne
    have := (hg (i + 1) (by omega)).op
    simp only [ahOp] at this
    rw [ho] at this
    cases this
  · subst hj
    exact g.lo
  · exact has_ge (itAt_zero (g.its k hkk)).1
  · exact has_lt (itAt_zero (g.its k hkk)).1 ho
  · have := g.its k hkk
    unfold itAt at this
    by_cases h1 : ((P i).T k).chk = 0
    · exact h1
    · rw [if_pos h1] at this; exact absurd this h1
/-- The last key, if there is any. -/
def LastK (K : List ByteArray) (last : ByteArray) (any : Bool) : Prop := any = true → ∃ L, K = L ++ [last]
theorem last_lt {P : Nat → Pm} {n i k : Nat} {last : ByteArray} (hg : ∀ i, i < n → GoodP P i) (hi : i < n) (hk : k < (P i).el) (h : LastK (keysL P i ++ keysP (P i) k) last true) : kLt last ((P i).T k).k = true := by
  obtain ⟨L, hL⟩ := h rfl
  have hr := keysL_rises (i + 1) (fun j hj => hg j (by omega))
  simp only [keysL] at hr
  have hs : keysP (P i) (P i).el = (keysP (P i) k ++ [((P i).T k).k]) ++ (keysP (P i) (P i).el).drop (k + 1) := by
    rw [← keysP_snoc]
    have : keysP (P i) (k + 1) = (keysP (P i) (P i).el).take (k + 1) := by
      unfold keysP
      rw [← List.map_take, List.take_range, Nat.min_eq_left (by omega)]
    rw [this, List.take_append_drop]
  rw [hs, ← List.append_assoc, ← List.append_assoc, hL] at hr
  have h1 := (List.pairwise_append.1 hr).1
  exact (List.pairwise_append.1 h1).2.2 last (by simp) _ (by simp)
end Go.Proofs.Ytbnppmkdhnpdfaa

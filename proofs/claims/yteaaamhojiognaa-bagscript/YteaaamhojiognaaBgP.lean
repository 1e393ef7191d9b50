/-
  All of the document's bag.
-/
import Derived.Test.YteaaamhojiognaaBgN
namespace Go.Proofs.Yteaaamhojiognaa
open Go.RowKit
set_option linter.unusedVariables false

/-- The packets so far, each with bytes of its own. -/
structure AllSt (w wr : World) (l : List Pk) (j : Nat) (a : Option Addr) (c : Nat) (l' : List Pk) : Prop where
  row : wr.ownsRow w.heap.size 39 4 (.slice a j c) j (pkCells l')
  len : l'.length = j
  pl : l'.map Pk.pl = (l.take j).map Pk.pl
  dat : ∀ p ∈ l', DatR w.heap.size wr p
  bel : Below w.heap.size w wr
/-- What All of the document tells. -/
def AllSay (w : World) (l : List Pk) (e : Ending) (w' : World) : Prop := ∃ a c l', e = .returned (.slice a l.length c) ∧ AllSt w w' l l.length a c l'
set_option maxHeartbeats 6400000 in
set_option maxRecDepth 100000 in
theorem rall_any {w : World} {B b : Nat} {v : Value} {room last lost : Nat} {l : List Pk} (h : RBag w B b v room last lost l) : Calls Try.prog 21 #[.pointer (some ⟨b, 0, none⟩)] w fun e w' => AllSay w l e w' := by
  have HB := aside h
  obtain ⟨x0, x1, x2, x3⟩ := h.cells
  obtain ⟨av, cv0, rfl, -⟩ := own_slice h.row
  have HMX := aside (show l.length ≤ 512 from by have h1 := h.le; have h2 := h.r2; omega)
  obtain ⟨n, hn⟩ : ∃ n, l.length = n := ⟨_, rfl⟩
  have HN := aside hn
  rw [hn] at x3
  clear h hn x0 x1 x2
  have HST := aside (show AllSt w w l 0 none 0 [] from ⟨⟨rfl, .inl ⟨rfl, rfl⟩⟩, rfl, rfl, fun p hp => (by cases hp), Below.refl _ _⟩)
  go_enter Try.func21, Try.ntmps21
  go_wp2
  go_loopw [3, 11] (fun ov i wr => ∃ (j : Nat) (a : Option Addr) (c : Nat) (l' : List Pk), i = .int .i64 (j : Int) ∧ j ≤ n ∧ ov = .slice a j c ∧ Hid (AllSt w wr l j a c l')) (fun _ i _ => n - (intOf i).toNat)
  case atStart => exact ⟨0, none, 0, [], rfl, Nat.zero_le _, rfl, HST.out⟩
  case round =>
    clear HST x3
    obtain ⟨j, a, c, l', rfl, hj, rfl, HS⟩ := hrel
    by_cases hlt : (j : Int) < (n : Int)
    · have hj0 : (0 : Int) ≤ (j : Int) := by omega
      have hmn : (n : Int) ≤ 512 := by have h1 := HMX.out; have h2 := HN.out; omega
      have HJ := aside (show j < n from by omega)
      obtain ⟨p, hp⟩ : ∃ p, l[j]? = some p := ⟨l[j]'(by have := HN.out; omega), List.getElem?_eq_getElem _⟩
      have hd := (HB.out.dat p (List.mem_of_getElem? hp)).on HS.out.bel
      have HP := aside hp
      obtain ⟨num, frm, dst, da, dl, dc, L⟩ := p
      obtain ⟨g, c9, e9, y0, y1, y2, y3⟩ := (HB.out.on HS.out.bel).at hp
      injection e9 with e1 _ e3
      subst e1 e3
      dsimp only at y0 y1 y2 y3
      have hL : L.length = dl := hd.1.1
      have hL2 : dl ≤ 65536 := hd.2.1
      obtain ⟨X1, hX1⟩ : ∃ X, wr.alloc (.cells #[.int .i64 num, .int .i64 frm, .int .i64 dst, .slice da dl dc] 39) = X := ⟨_, rfl⟩
      obtain ⟨q1, hq1⟩ : ∃ q, wr.heap.size = q := ⟨_, rfl⟩
      have b1 := bnew wr (.cells #[.int .i64 num, .int .i64 frm, .int .i64 dst, .slice da dl dc] 39)
      have k1 := heap_alloc_new wr (.cells #[.int .i64 num, .int .i64 frm, .int .i64 dst, .slice da dl dc] 39)
      rw [hX1] at b1 k1
      rw [hq1] at k1
      have CV := aside (byIn_conv (hd.1.on b1))
      dsimp only at CV
      obtain ⟨mb, bb, cur, fr, hcur⟩ := byIn_made X1 L (by omega)
      have hcv := Lib.run_convert_string_bytes (P := Try.prog) X1 9 32 5 ⟨L.toArray⟩ (u := .string) Try.underlying9 Try.underlying32 Try.underlying5
      rw [show ByteArray.size ⟨L.toArray⟩ = L.length from by show (L.toArray).size = _; simp] at hcv
      obtain ⟨X2, hX2⟩ : ∃ X, Lib.bytesWorld X1 5 ⟨L.toArray⟩ = X := ⟨_, rfl⟩
      obtain ⟨cp, hcp⟩ : ∃ y, grownCap X1 L.length 0 5 = y := ⟨_, rfl⟩
      obtain ⟨q2, hq2⟩ : ∃ y, X1.heap.size = y := ⟨_, rfl⟩
      have HQ := aside (show q1 < q2 ∧ w.heap.size ≤ q1 from ⟨by rw [← hq2]; exact lt_of_blk k1, by rw [← hq1]; exact HS.out.bel.size⟩)
      rw [hX2, hcp, hq2, hL] at hcv mb
      rw [hX2, hq2] at hcur
      rw [hX2] at bb
      have HCV := aside hcv
      have k2 := blk_on k1 bb
      obtain ⟨X3, hX3⟩ : ∃ X, X2.setCell ⟨q1, 3, none⟩ (.slice (some ⟨q2, 0, none⟩) dl cp) = X := ⟨_, rfl⟩
      have k3 : X3.heap[q1]? = some (.cells #[.int .i64 num, .int .i64 frm, .int .i64 dst, .slice (some ⟨q2, 0, none⟩) dl cp] 39 (0, 0)) := by
        rw [← hX3]
        have := set_inB 3 (.slice (some ⟨q2, 0, none⟩) dl cp) k2
        simpa using this
      have b3 : Below wr.heap.size wr X3 := by rw [← hX3]; exact (bthen b1 bb).setCell (p := ⟨q1, 3, none⟩) (by rw [← hq1]; exact Nat.le_refl _) _
      have d3 : DatR w.heap.size X3 ⟨num, frm, dst, some ⟨q2, 0, none⟩, dl, cp, L⟩ := by
        have d2 : DatR w.heap.size X2 ⟨num, frm, dst, some ⟨q2, 0, none⟩, dl, cp, L⟩ := ⟨mb, hL2, q2, cur, fr, rfl, by have := HQ.out; omega, hcur⟩
        rw [← hX3]
        exact d2.keep ((Keeps.refl (fun x => x = q1) X2).setCell (p := ⟨q1, 3, none⟩) (fun _ => rfl) _) (fun x hx e => d2.typed k2 (by decide) x hx e)
      have K1 := aside k1
      have K2 := aside k2
      have bn := bnew X3 (.cells #[.int .i64 num, .int .i64 frm, .int .i64 dst, .slice (some ⟨q2, 0, none⟩) dl cp] 39)
      have KN := aside (heap_alloc_new X3 (.cells #[.int .i64 num, .int .i64 frm, .int .i64 dst, .slice (some ⟨q2, 0, none⟩) dl cp] 39))
      have K3 := aside k3
      have D4 := aside (d3.on bn)
      have R4 := aside (own_on HS.out.row (bthen b3 bn))
      have B4 := aside (bthen HS.out.bel (bthen b3 bn))
      have DD4 := aside (show ∀ p ∈ l', DatR w.heap.size (X3.alloc (.cells #[.int .i64 num, .int .i64 frm, .int .i64 dst, .slice (some ⟨q2, 0, none⟩) dl cp] 39)) p from fun p hp => (HS.out.dat p hp).on (bthen b3 bn))
      have HTK := aside (show (l.take (j + 1)).map Pk.pl = l'.map Pk.pl ++ [⟨num, frm, dst, L⟩] from by
        rw [HS.out.pl, List.take_add_one, HP.out, List.map_append]; rfl)
      have HL' := aside HS.out.len
      clear hp hd hL b1 k1 mb bb hcur hcv k2 k3 b3 d3 bn HS
      go_upto_region 5 with fail
      try rw [hX1]
      try rw [hq1]
      clear hX1 hq1 hX2 hcp hq2 y0 y1 y2 y3
      obtain ⟨z0, z1, z2, z3⟩ := fourB K1.out
      obtain ⟨u0, u1, u2, u3⟩ := fourB K2.out
      have f3 := frozen_of_row X2 q1 3 _ _ K2.out
      have cv := CV.out
      have hcv := HCV.out
      go_upto_region 6 with fail
      try rw [hX3]
      clear hX3 z0 z1 z2 z3 u0 u1 u2 u3 f3 cv hcv
      obtain ⟨z0, z1, z2, z3⟩ := fourB K3.out
      go_wp2_with (at_builtin; refine wpList_plain rfl fun K hK => op_append_pk _ _ rfl w.heap.size j 1 (.slice a j c) l' [⟨num, frm, dst, some ⟨q2, 0, none⟩, dl, cp, L⟩] (by rfl) R4.out ⟨X3.heap.size, 0, none⟩ 1 (by rfl) rfl (fun i u hi => by rw [Addr.add_lit, Nat.zero_add, cell_of_row _ _ i _ _ _ KN.out]; rw [pkCells_single] at hi; simpa using hi) (by have h1 := HMX.out; have h2 := HN.out; have h3 := HJ.out; omega) B4.out.size ?_; intro v5 w5 own5 g5 at5; refine hK _ _ ?_; refine Hid.out ?_)
      refine aside ?_
      obtain ⟨a5, c5, rfl, -⟩ := own_slice own5
      have k5 : Keeps (fun x => (Value.slice a j c).ownBlock = some x) _ w5 := (Keeps.refl _ _).grown g5 (fun k hk _ => hk)
      have HS5 := aside (show AllSt w w5 l (j + 1) a5 c5 (l' ++ [⟨num, frm, dst, some ⟨q2, 0, none⟩, dl, cp, L⟩]) from ⟨own5, by rw [List.length_append, HL'.out]; rfl, by rw [HTK.out, List.map_append]; rfl, fun p hp => by
        rcases List.mem_append.1 hp with hp | hp
        · exact (DD4.out p hp).keep k5 (fun x hx e => (DD4.out p hp).row R4.out (by decide) x hx e)
        · rcases List.mem_singleton.1 hp with rfl
          exact D4.out.keep k5 (fun x hx e => D4.out.row R4.out (by decide) x hx e), B4.out.trans (k5.below B4.out.size (fun x hx e => by have := (R4.out.lt x e).1; omega))⟩)
      clear own5 g5 at5 k5 z0 z1 z2 z3
      go_wp2
      go_roundw
      case rel => exact ⟨j + 1, _, _, _, by first | rfl | go_num, by omega, rfl, HS5.out⟩
      case measure => simp [intOf] <;> omega
    · obtain rfl : j = n := by omega
      go_wp2
      go_ret
      refine ⟨a, c, l', by rw [HN.out]; rfl, ?_⟩
      rw [HN.out]
      exact HS.out
end Go.Proofs.Yteaaamhojiognaa

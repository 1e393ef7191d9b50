/-
  The law NumsWrites, walked: whatever steps came in, it returns true and writes nothing that was there.
-/
import Derived.Test.YtccbmppmnddkpaaSteps
import Derived.Test.YtccbmppmnddkpaaWStepRef
import Derived.Test.YtccbmppmnddkpaaSpoil
import Derived.Deep.RegionHeld3
namespace Go.Proofs.Ytccbmppmnddkpaa
open Go.RowKit
set_option linter.unusedVariables false

/-- Two writers, the code's and the document's own, that hold the same bytes and share no memory. -/
structure TwoW (B bw bd : Nat) (gw gd : Option Nat) (l : List UInt8) (w : World) : Prop where
  code : IsW 60 B bw gw l w
  doc : IsW 38 B bd gd l w
  ne : bw ≠ bd
  wd : gw ≠ some bd
  dw : gd ≠ some bw
  gg : ∀ k, gw = some k → gd ≠ some k

/-- The first loop: k steps are laid down by both. -/
def WritesRel (B bw bd : Nat) (T : Nat → Stp) (len : Nat) (w : World) (i : Value) (wr : World) : Prop :=
  ∃ (k : Nat) (gw gd : Option Nat), i = .int .i64 (k : Int) ∧ k ≤ len ∧ TwoW B bw bd gw gd (allB T k) wr ∧ Below B w wr

theorem fresh_ne {w : World} {g g' : Option Nat} {b : Nat} (fr : Fresh w g g') (h : g ≠ some b) (hb : b < w.heap.size) : g' ≠ some b := by
  rcases fr with rfl | ⟨k, rfl, hk⟩
  · exact h
  · intro e; cases e; omega

/-- The step as the walk writes it. -/
theorem write_at (B b : Nat) (g : Option Nat) (l : List UInt8) (t : Stp) (w : World) (hW : IsW 60 B b g l w) (hB : B ≤ w.heap.size) (ht : t.Ok) (hl : l.length ≤ 17592186044416) :
    Calls Try.prog 13 #[.pointer (some ⟨b, 0, none⟩), .agg #[.int .i64 t.kind, .int .i64 t.n, .string t.s, .int .u64 (t.u : Int), .bool t.is]] w fun e w' => e = .returned (.tuple #[]) ∧
      ∃ g', IsW 60 B b g' (l ++ t.bytes) w' ∧ Fresh w g g' ∧ Keeps (fun k => k = b ∨ g = some k) w w' := write_any B b g l t w hW hB ht hl
theorem writeRef_at (B b : Nat) (g : Option Nat) (l : List UInt8) (t : Stp) (w : World) (hW : IsW 38 B b g l w) (hB : B ≤ w.heap.size) (ht : t.Ok) (hl : l.length ≤ 17592186044416) :
    Calls Try.prog 14 #[.pointer (some ⟨b, 0, none⟩), .agg #[.int .i64 t.kind, .int .i64 t.n, .string t.s, .int .u64 (t.u : Int), .bool t.is]] w fun e w' => e = .returned (.tuple #[]) ∧
      ∃ g', IsW 38 B b g' (l ++ t.bytes) w' ∧ Fresh w g g' ∧ Keeps (fun k => k = b ∨ g = some k) w w' := writeRef_any B b g l t w hW hB ht hl

set_option maxHeartbeats 6400000 in
set_option maxRecDepth 100000 in
theorem writes_in (a : Option Addr) (len cap : Nat) (T : Nat → Stp) (w : World) (h : StepsAt w a len cap T) (hb : len + tot T len ≤ 2147483647) :
    Calls Try.prog 3 #[.slice a len cap] w fun e w' => e = .returned (.bool true) ∧ Below w.heap.size w w' := by
  have HS := aside h
  have hbe : beyondB T len = false := by simp only [beyondB, decide_eq_false_iff_not]; omega
  obtain ⟨hlc, hcm, hst⟩ := h
  unfold maxLen at hcm
  have hlen31 : (len : Int) ≤ 2147483647 := by omega
  have HB := aside hb
  have HST := aside hst
  clear hb hst
  go_enter Try.func3, Try.ntmps3
  go_wp2_with fail
  refine (beyond_any a len cap T _ HS.out).mono ?_
  rintro e w0 ⟨rfl, rfl⟩
  rw [hbe]
  go_wp2_with fail
  refine (newWriter_any _).mono ?_
  rintro e w1 ⟨rfl, hw1⟩
  have W1 : IsW 60 w0.heap.size w0.heap.size none [] w1 := by rw [hw1]; exact isW_new _ _ _ (Nat.le_refl _)
  have b1 : Below w0.heap.size w0 w1 := by rw [hw1]; exact (Below.refl _ _).alloc (Nat.le_refl _) _
  clear hw1 hbe
  go_wp2_with fail
  refine (newWriterRef_any _).mono ?_
  rintro e w2 ⟨rfl, hw2⟩
  have s1 := W1.lt
  have D2 : IsW 38 w0.heap.size w1.heap.size none [] w2 := by rw [hw2]; exact isW_new _ _ _ b1.size
  have k2 : Keeps (fun _ => False) w1 w2 := by rw [hw2]; exact (Keeps.refl _ _).alloc _
  have b2 : Below w0.heap.size w0 w2 := b1.trans (k2.below b1.size (fun _ _ h => h))
  have T2 : TwoW w0.heap.size w0.heap.size w1.heap.size none none [] w2 := ⟨W1.keep k2 (fun h => h) (fun _ _ h => h), D2, by omega, by simp, by simp, by simp⟩
  obtain ⟨bd, hbd⟩ : ∃ bd, bd = w1.heap.size := ⟨_, rfl⟩
  rw [← hbd] at T2
  rw [← hbd]
  clear hw2 hbd D2 k2 s1 W1 b1
  go_wp2_with fail
  refine (wlen_any _ _ _ _ _ T2.code).mono ?_
  rintro e w2' ⟨rfl, rfl⟩
  go_wp2_with fail
  refine (bytes_any _ _ _ _ _ T2.code (by simp)).mono ?_
  rintro e w3 ⟨v3, rfl, ho3, k3⟩
  have hv3 : ∃ a3 c3, v3 = .slice a3 0 c3 := by
    rcases ho3.2 with ⟨rfl, _⟩ | ⟨g, c, cur, rfl, _⟩
    · exact ⟨_, _, rfl⟩
    · exact ⟨_, _, rfl⟩
  obtain ⟨a3, c3, rfl⟩ := hv3
  have b3 : Below w0.heap.size w0 w3 := b2.trans (k3.below b2.size (fun _ _ h => h))
  have T3 : TwoW w0.heap.size w0.heap.size bd none none [] w3 := ⟨T2.code.keep k3 (fun h => h) (fun _ _ h => h), T2.doc.keep k3 (fun h => h) (fun _ _ h => h), T2.ne, by simp, by simp, by simp⟩
  clear ho3 k3 T2 b2
  go_wp2
  go_loopw [5] (fun i wr => WritesRel w0.heap.size w0.heap.size bd T len w0 i wr) (fun i _ => len - (intOf i).toNat)
  case atStart => exact ⟨0, none, none, rfl, Nat.zero_le _, T3, b3⟩
  case round =>
    obtain ⟨k, gw, gd, rfl, hk, hT, hbel⟩ := hrel
    by_cases hlt : (k : Int) < (len : Int)
    · rcases HST.out with h0 | ⟨blk, off, rfl, hblk, hc⟩
      · omega
      · obtain ⟨⟨c0, c1, c2, c3, c4⟩, n0, n1, ns, nu⟩ := hc k (by omega)
        have d0 := (hbel.cell (p := ⟨blk, off + k * 5, none⟩) hblk).trans c0
        have d1 := (hbel.cell (p := ⟨blk, off + k * 5 + 1, none⟩) hblk).trans c1
        have d2 := (hbel.cell (p := ⟨blk, off + k * 5 + 2, none⟩) hblk).trans c2
        have d3 := (hbel.cell (p := ⟨blk, off + k * 5 + 3, none⟩) hblk).trans c3
        have d4 := (hbel.cell (p := ⟨blk, off + k * 5 + 4, none⟩) hblk).trans c4
        have hok : (T k).Ok := ⟨n0, n1, by have := tot_one T k len (by omega); have := HB.out; omega, nu⟩
        have hll : (allB T k).length ≤ 17592186044416 := by have := allB_len T k; have := tot_mono T k len (by omega); have := HB.out; omega
        have HK := aside hok
        have HLL := aside hll
        have HTT := aside hT
        have CC := aside (And.intro c0 (And.intro c1 (And.intro c2 (And.intro c3 c4))))
        clear hc c0 c1 c2 c3 c4 n0 n1 ns nu hok hll hT
        go_wp2_with fail
        refine (write_at w0.heap.size w0.heap.size gw (allB T k) (T k) _ HTT.out.code hbel.size HK.out HLL.out).mono ?_
        rintro e w4 ⟨rfl, gw', W4, fr4, k4⟩
        have h := HTT.out
        have D4 : IsW 38 w0.heap.size bd gd (allB T k) w4 := h.doc.keep k4 (fun x => x.elim (fun x => h.ne x.symm) (fun x => h.wd x)) (fun j hj x => x.elim (fun x => h.dw (by rw [hj, x])) (fun x => h.gg j x hj))
        have hbel4 : Below w0.heap.size w0 w4 := hbel.trans (k4.below hbel.size (fun j hj h' => h'.elim (fun h' => by omega) (fun h' => by have := (h.code.row j h').1; omega)))
        have wd4 : gw' ≠ some bd := fresh_ne fr4 h.wd h.doc.lt
        have gg4 : ∀ q, gw' = some q → gd ≠ some q := fun q hq e => by
          rcases fr4 with e' | ⟨z, e', hz⟩
          · exact h.gg q (by rw [← e']; exact hq) e
          · have := (h.doc.row q e).2
            rw [hq] at e'
            cases e'
            omega
        have dw4 := h.dw
        have ne4 := h.ne
        have c := CC.out
        have d0 := (hbel4.cell (p := ⟨blk, off + k * 5, none⟩) hblk).trans c.1
        have d1 := (hbel4.cell (p := ⟨blk, off + k * 5 + 1, none⟩) hblk).trans c.2.1
        have d2 := (hbel4.cell (p := ⟨blk, off + k * 5 + 2, none⟩) hblk).trans c.2.2.1
        have d3 := (hbel4.cell (p := ⟨blk, off + k * 5 + 3, none⟩) hblk).trans c.2.2.2.1
        have d4 := (hbel4.cell (p := ⟨blk, off + k * 5 + 4, none⟩) hblk).trans c.2.2.2.2
        have WW := aside W4; have DD := aside D4; have GG := aside gg4
        clear h c k4 fr4 HTT W4 D4 gg4 hbel CC
        go_wp2_with fail
        refine (writeRef_at w0.heap.size bd gd (allB T k) (T k) _ DD.out hbel4.size HK.out HLL.out).mono ?_
        rintro e w5 ⟨rfl, gd', D5, fr5, k5⟩
        have W5 : IsW 60 w0.heap.size w0.heap.size gw' (allB T k ++ (T k).bytes) w5 := WW.out.keep k5 (fun x => x.elim (fun x => ne4 x) (fun x => dw4 x)) (fun j hj x => x.elim (fun x => wd4 (by rw [hj, x])) (fun x => GG.out j hj x))
        have hbel5 : Below w0.heap.size w0 w5 := hbel4.trans (k5.below hbel4.size (fun j hj h' => h'.elim (fun h' => by have := DD.out.1; omega) (fun h' => by have := (DD.out.row j h').1; omega)))
        have T5 : TwoW w0.heap.size w0.heap.size bd gw' gd' (allB T (k + 1)) w5 := ⟨W5, D5, ne4, wd4, fresh_ne fr5 dw4 WW.out.lt, fun q hq e => by
          rcases fr5 with e' | ⟨z, e', hz⟩
          · exact GG.out q hq (by rw [← e']; exact e)
          · have := (WW.out.row q hq).2
            rw [e] at e'
            cases e'
            omega⟩
        have TT := aside T5
        clear d0 d1 d2 d3 d4 k5 fr5 W5 D5 WW DD GG T5 hbel4 wd4 dw4 ne4
        go_wp2_with fail
        refine (wlen_any _ _ _ _ _ TT.out.code).mono ?_
        rintro e w5' ⟨rfl, rfl⟩
        go_wp2_with fail
        refine (wlenRef_any _ _ _ _ _ TT.out.doc).mono ?_
        rintro e w5'' ⟨rfl, rfl⟩
        go_wp2
        go_roundw
        case rel => exact ⟨k + 1, gw', gd', by go_num, by omega, TT.out, hbel5⟩
        case measure => simp [intOf]; omega
    · have hkl : k = len := by omega
      subst hkl
      have hll : (allB T k).length ≤ 70368744177664 := by have := allB_len T k; have := HB.out; omega
      generalize allB T k = L at *
      clear HB hlen31 hlt T3 b3
      go_wp2_with fail
      refine (bytes_any _ _ _ _ _ hT.code hll).mono ?_
      rintro e w4 ⟨va, rfl, oa4, k4⟩
      have T4 : TwoW w0.heap.size w0.heap.size bd gw gd L w4 := ⟨hT.code.keep k4 (fun h => h) (fun _ _ h => h), hT.doc.keep k4 (fun h => h) (fun _ _ h => h), hT.ne, hT.wd, hT.dw, hT.gg⟩
      have b4 : Below w0.heap.size w0 w4 := hbel.trans (k4.below hbel.size (fun _ _ h => h))
      have fa : ∀ q, va.ownBlock = some q → wr.heap.size ≤ q ∧ q < w4.heap.size := oa4.lt
      have ltd : bd < wr.heap.size := hT.doc.lt
      have ltw : w0.heap.size < wr.heap.size := hT.code.lt
      have lgd : ∀ q, gd = some q → q < wr.heap.size := fun q e => (hT.doc.row q e).2
      have lgw : ∀ q, gw = some q → q < wr.heap.size := fun q e => (hT.code.row q e).2
      have s4 : wr.heap.size ≤ w4.heap.size := k4.size
      clear hT k4 hbel
      go_wp2_with fail
      refine (bytes_any _ _ _ _ _ T4.code hll).mono ?_
      rintro e w5 ⟨vb, rfl, ob5, k5⟩
      have T5 : TwoW w0.heap.size w0.heap.size bd gw gd L w5 := ⟨T4.code.keep k5 (fun h => h) (fun _ _ h => h), T4.doc.keep k5 (fun h => h) (fun _ _ h => h), T4.ne, T4.wd, T4.dw, T4.gg⟩
      have b5 : Below w0.heap.size w0 w5 := b4.trans (k5.below b4.size (fun _ _ h => h))
      have oa5 := ownsRow_keep oa4 k5 (fun _ _ h => h)
      have fb : ∀ q, vb.ownBlock = some q → w4.heap.size ≤ q := fun q e => (ob5.lt q e).1
      have s45 : w4.heap.size ≤ w5.heap.size := k5.size
      have hrs : wr.heap.size ≤ w5.heap.size := Nat.le_trans s4 s45
      clear T4 k5 b4 oa4
      obtain ⟨_, _, vd, hhd, rfl, hownd⟩ := T5.doc
      have cd := cell_one hhd
      obtain ⟨da, dn, dc, rfl⟩ := own_form hownd
      have OA := aside oa5; have OB := aside ob5; have OD := aside hownd; have TT := aside T5; have HD := aside hhd
      clear oa5 ob5 hownd T5 hhd
      go_wp2_with fail
      refine (sameBytes_any _ _ L L _ (reads_own OA.out) (reads_own OD.out)).mono ?_
      rintro e w5' ⟨rfl, rfl⟩
      go_wp2_with fail
      refine (sameBytes_any _ _ L L _ (reads_own OB.out) (reads_own OD.out)).mono ?_
      rintro e w5'' ⟨rfl, rfl⟩
      go_wp2_with fail
      refine (spoil_any wr.heap.size L.length va _ _ (by have := OA.out; rw [u8s_bytes] at this; exact this) hrs hll).mono ?_
      rintro e w6 ⟨rfl, k6⟩
      have h := TT.out
      have T6 : TwoW w0.heap.size w0.heap.size bd gw _ L w6 := ⟨h.code.keep k6 (fun x => by have := (fa _ x).1; omega) (fun j hj x => by have := lgw j hj; have := (fa _ x).1; omega), h.doc.keep k6 (fun x => by have := (fa _ x).1; omega) (fun j hj x => by have := lgd j hj; have := (fa _ x).1; omega), h.ne, h.wd, h.dw, h.gg⟩
      have b6 : Below w0.heap.size w0 w6 := b5.trans (k6.below b5.size (fun j hj x => by have := (fa _ x).1; omega))
      have ob6 := ownsRow_keep OB.out k6 (fun j hj x => by have := (fa _ x).2; have := fb j hj; omega)
      have hd6 : w6.heap[bd]? = some (.cells #[.slice da dn dc] 38 (0, 0)) := (k6.block bd h.doc.lt (fun x => by have := (fa _ x).1; omega)).trans HD.out
      have od6 := ownsRow_keep OD.out k6 (fun j hj x => by have := lgd j hj; have := (fa _ x).1; omega)
      have cd6 := cell_one hd6
      have s6 : bd < w6.heap.size := (Array.getElem?_eq_some_iff.1 hd6).1
      have OB6 := aside ob6; have OD6 := aside od6; have T6' := aside T6
      clear h k6 OA OB OD TT HD T6 ob6 od6 hd6 cd b5
      go_wp2_with fail
      go_region_held3 (fun w' => w'.cell? ⟨bd, 0, none⟩ = some (.slice da dn dc)) (first | go_keep | (rw [k7.cell s6 (fun h => h)]; assumption))
        (first | (go_at_call 12; refine (bytes_any w0.heap.size w0.heap.size gw L _ (by exact T6'.out.code) hll).mono ?_; rintro e w7 ⟨v7, rfl, o7, k7⟩) | (go_at_call 16; refine (sameBytes_any _ _ L L _ (by first | exact reads_own OB6.out | exact reads_own o7) (by first | exact reads_own OD6.out | exact reads_own (ownsRow_keep OD6.out.drew k7 (fun _ _ h => h)))).mono ?_; rintro e w8 ⟨rfl, rfl⟩))
      all_goals
        go_wp2
        go_ret
        exact ⟨rfl, b6.drew.trans (k7.below b6.size (fun _ _ h => h))⟩

set_option maxHeartbeats 400000 in
theorem writes_beyond (a : Option Addr) (len cap : Nat) (T : Nat → Stp) (w : World) (h : StepsAt w a len cap T) (hb : ¬ len + tot T len ≤ 2147483647) :
    Calls Try.prog 3 #[.slice a len cap] w fun e w' => e = .returned (.bool true) ∧ Below w.heap.size w w' := by
  have hbe : beyondB T len = true := by simp only [beyondB, decide_eq_true_eq]; omega
  have HS := aside h
  clear h hb
  go_enter Try.func3, Try.ntmps3
  go_wp2_with fail
  refine (beyond_any a len cap T _ HS.out).mono ?_
  rintro e w0 ⟨rfl, rfl⟩
  rw [hbe]
  go_wp2
  go_ret
  exact ⟨rfl, Below.refl _ _⟩

theorem writes_walk (a : Option Addr) (len cap : Nat) (T : Nat → Stp) (w : World) (h : StepsAt w a len cap T) :
    Calls Try.prog 3 #[.slice a len cap] w fun e w' => e = .returned (.bool true) ∧ Below w.heap.size w w' := by
  by_cases hb : len + tot T len ≤ 2147483647
  · exact writes_in a len cap T w h hb
  · exact writes_beyond a len cap T w h hb

end Go.Proofs.Ytccbmppmnddkpaa

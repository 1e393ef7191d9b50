/-
  The law NumsBack, walked: whatever steps came in, it returns true and writes nothing that was there.
-/
import Derived.Test.YtccbmppmnddkpaaBackPlain
import Derived.Test.YtccbmppmnddkpaaWBytes
import Derived.Deep.RegionHeld3
namespace Go.Proofs.Ytccbmppmnddkpaa
open Go.RowKit
set_option linter.unusedVariables false

/-- The first loop: k steps are laid down. -/
def BackRel1 (B : Nat) (T : Nat → Stp) (len : Nat) (w : World) (i : Value) (wr : World) : Prop :=
  ∃ (k : Nat) (g : Option Nat), i = .int .i64 (k : Int) ∧ k ≤ len ∧ IsW 60 B B g (allB T k) wr ∧ Below B w wr

/-- The second loop: k steps are read. -/
def BackRel2 (B br : Nat) (s : ByteArray) (T : Nat → Stp) (len : Nat) (w : World) (i : Value) (wr : World) : Prop :=
  ∃ k : Nat, i = .int .i64 (k : Int) ∧ k ≤ len ∧ IsR br s ((allB T k).length : Int) 0 wr ∧ Below B w wr

/-- A step as the walk writes it. -/
theorem write_at (B b : Nat) (g : Option Nat) (l : List UInt8) (t : Stp) (w : World) (hW : IsW 60 B b g l w) (hB : B ≤ w.heap.size) (ht : t.Ok) (hl : l.length ≤ 17592186044416) :
    Calls Try.prog 13 #[.pointer (some ⟨b, 0, none⟩), .agg #[.int .i64 t.kind, .int .i64 t.n, .string t.s, .int .u64 (t.u : Int), .bool t.is]] w fun e w' => e = .returned (.tuple #[]) ∧
      ∃ g', IsW 60 B b g' (l ++ t.bytes) w' ∧ Fresh w g g' ∧ Keeps (fun k => k = b ∨ g = some k) w w' := write_any B b g l t w hW hB ht hl

set_option maxHeartbeats 6400000 in
set_option maxRecDepth 100000 in
theorem back_in (a : Option Addr) (len cap : Nat) (T : Nat → Stp) (w : World) (h : StepsAt w a len cap T) (hb : len + tot T len ≤ 2147483647) :
    Calls Try.prog 5 #[.slice a len cap] w fun e w' => e = .returned (.bool true) ∧ Below w.heap.size w w' := by
  have HS := aside h
  have hbe : beyondB T len = false := by simp only [beyondB, decide_eq_false_iff_not]; omega
  obtain ⟨hlc, hcm, hst⟩ := h
  unfold maxLen at hcm
  have hlen31 : (len : Int) ≤ 2147483647 := by omega
  have HB := aside hb
  have HST := aside hst
  clear hb hst
  go_enter Try.func5, Try.ntmps5
  go_wp2_with fail
  refine (beyond_any a len cap T _ HS.out).mono ?_
  rintro e w0 ⟨rfl, rfl⟩
  rw [hbe]
  go_wp2_with fail
  refine (newWriter_any _).mono ?_
  rintro e w1 ⟨rfl, hw1⟩
  have W1 : IsW 60 w0.heap.size w0.heap.size none [] w1 := by rw [hw1]; exact isW_new _ _ _ (Nat.le_refl _)
  have b1 : Below w0.heap.size w0 w1 := by rw [hw1]; exact (Below.refl _ _).alloc (Nat.le_refl _) _
  clear hw1 hbe
  go_wp2
  go_loopw [4] (fun i wr => BackRel1 w0.heap.size T len w0 i wr) (fun i _ => len - (intOf i).toNat)
  case atStart => exact ⟨0, none, rfl, Nat.zero_le _, W1, b1⟩
  case round =>
    obtain ⟨k, g, rfl, hk, hW, hbel⟩ := hrel
    by_cases hlt : (k : Int) < (len : Int)
    · rcases HST.out with h0 | ⟨blk, off, rfl, hblk, hc⟩
      · omega
      · obtain ⟨⟨c0, c1, c2, c3, c4⟩, n0, n1, ns, nu⟩ := hc k (by omega)
        have d0 := (hbel.cell (p := ⟨blk, off + k * 5, none⟩) hblk).trans c0
        have d1 := (hbel.cell (p := ⟨blk, off + k * 5 + 1, none⟩) hblk).trans c1
        have d2 := (hbel.cell (p := ⟨blk, off + k * 5 + 2, none⟩) hblk).trans c2
        have d3 := (hbel.cell (p := ⟨blk, off + k * 5 + 3, none⟩) hblk).trans c3
        have d4 := (hbel.cell (p := ⟨blk, off + k * 5 + 4, none⟩) hblk).trans c4
        have hok : (T k).Ok := ⟨n0, n1, by have := tot_one T k len (by omega); have := HB.out; omega, nu⟩
        have hll : (allB T k).length ≤ 17592186044416 := by have := allB_len T k; have := tot_mono T k len (by omega); have := HB.out; omega
        have HK := aside hok
        have HLL := aside hll
        have HWW := aside hW
        clear hc c0 c1 c2 c3 c4 n0 n1 ns nu hok hll hW
        go_wp2_with fail
        refine (write_at w0.heap.size w0.heap.size g (allB T k) (T k) _ HWW.out hbel.size HK.out HLL.out).mono ?_
        rintro e w2 ⟨rfl, g2, W2, fr2, k2⟩
        have hbel2 : Below w0.heap.size w0 w2 := hbel.trans (k2.below hbel.size (fun j hj h => h.elim (fun h => by omega) (fun h => by have := (HWW.out.row j h).1; omega)))
        clear d0 d1 d2 d3 d4 k2 fr2
        go_wp2
        go_roundw
        case rel => exact ⟨k + 1, g2, by go_num, by omega, W2, hbel2⟩
        case measure => simp [intOf]; omega
    · have hkl : k = len := by omega
      subst hkl
      have hll : (allB T k).length ≤ 1099511627776 := by have := allB_len T k; have := HB.out; omega
      have HLL := aside hll
      clear hll
      go_wp2_with fail
      refine (bytes_any w0.heap.size w0.heap.size g (allB T k) _ hW (by have := HLL.out; omega)).mono ?_
      rintro e w2 ⟨v2, rfl, ho2, k2⟩
      have b2 : Below w0.heap.size w0 w2 := hbel.trans (k2.below hbel.size (fun _ _ h => h))
      go_wp2_with fail
      refine (newReader_any v2 (allB T k) _ (reads_own ho2)).mono ?_
      rintro e w3 ⟨rfl, hw3⟩
      have r3 : IsR w2.heap.size ⟨(allB T k).toArray⟩ ((allB T 0).length : Int) 0 w3 := by rw [hw3]; exact isR_new w2 _
      have b3 : Below w0.heap.size w0 w3 := by rw [hw3]; exact b2.alloc b2.size _
      have hbr : w0.heap.size ≤ w2.heap.size := b2.size
      obtain ⟨br, hbrE⟩ : ∃ br, br = w2.heap.size := ⟨_, rfl⟩
      rw [← hbrE] at r3 hbr
      rw [← hbrE]
      obtain ⟨s, hsE⟩ : ∃ s : ByteArray, s = ⟨(allB T k).toArray⟩ := ⟨_, rfl⟩
      rw [← hsE] at r3
      have HSE := aside hsE
      clear hw3 hW ho2 k2 b2 hbel hbrE hsE
      go_wp2
      go_loopw [6] (fun i wr => BackRel2 w0.heap.size br s T k w0 i wr) (fun i _ => k - (intOf i).toNat)
      case atStart => exact ⟨0, rfl, Nat.zero_le _, r3, b3⟩
      case round =>
        obtain ⟨j, rfl, hj, hr, hbj⟩ := hrel
        have hsz : s.size = (allB T k).length := by rw [HSE.out]; show (allB T k).toArray.size = _; simp
        have hdat : s.data.toList = allB T k := by rw [HSE.out]
        by_cases hlt2 : (j : Int) < (k : Int)
        · rcases HST.out with h0 | ⟨blk, off, rfl, hblk, hc⟩
          · omega
          · obtain ⟨⟨c0, c1, c2, c3, c4⟩, n0, n1, ns, nu⟩ := hc j (by omega)
            have d0 := (hbj.cell (p := ⟨blk, off + j * 5, none⟩) hblk).trans c0
            have d1 := (hbj.cell (p := ⟨blk, off + j * 5 + 1, none⟩) hblk).trans c1
            have d2 := (hbj.cell (p := ⟨blk, off + j * 5 + 2, none⟩) hblk).trans c2
            have d3 := (hbj.cell (p := ⟨blk, off + j * 5 + 3, none⟩) hblk).trans c3
            have d4 := (hbj.cell (p := ⟨blk, off + j * 5 + 4, none⟩) hblk).trans c4
            obtain ⟨rest, hrest⟩ := allB_drop T j k (by omega)
            rw [← hdat] at hrest
            have hple : (allB T j).length ≤ s.size := by rw [hsz]; exact allB_le T j k (by omega)
            have hs40 : s.size ≤ 1099511627776 := by rw [hsz]; have := HLL.out; omega
            have hstep : (allB T (j + 1)).length = (allB T j).length + (T j).bytes.length := by simp [allB]
            generalize (allB T j).length = p at *
            generalize T j = t at *
            obtain ⟨kind, n, tx, u, is⟩ := t
            simp only at d0 d1 d2 d3 d4 n0 n1 ns nu
            clear hc c0 c1 c2 c3 c4 hdat hsz r3 b3
            have hne4 : wr.heap.size ≠ br := by have := hr.lt; omega
            have hB4 : w0.heap.size ≤ wr.heap.size := hbj.size
            by_cases hk0 : kind = 0
            · subst hk0
              rw [bytes_kind0 _ rfl] at hrest hstep
              simp only at hrest hstep
              have HR := aside hrest
              have HST2 := aside hstep
              clear hrest hstep
              by_cases hn : n < 0
              · have hN : Hid ((0 : Int) = ((up n : Nat) : Int)) := by show (0 : Int) = _; unfold up; omega
                have hup : up n < 9223372036854775808 := by unfold up; omega
                go_wp2_with fail
                generalize hW4 : wr.alloc _ = w4
                have hsb : w4.heap[wr.heap.size]? = some (.cells #[.int .i64 0, .int .i64 n, .string tx, .int .u64 (u : Int), .bool is] 34 (0, 0)) := by rw [← hW4]; exact heap_alloc_new wr _
                have e1 : w4.cell? ⟨wr.heap.size, 1, none⟩ = some (.int .i64 n) := by rw [cell_of_row w4 _ 1 _ _ _ hsb]; rfl
                have r4 : IsR br s (p : Int) 0 w4 := by rw [← hW4]; exact hr.keep ((Keeps.refl (fun _ => False) wr).alloc _) (fun h => h)
                have b4 : Below w0.heap.size w0 w4 := by rw [← hW4]; exact hbj.alloc hB4 _
                have sz4 : wr.heap.size < w4.heap.size := (Array.getElem?_eq_some_iff.1 hsb).1
                clear hW4 hsb hr hbj d0 d1 d2 d3 d4
                go_region_held3 (fun w' => w'.cell? ⟨wr.heap.size, 1, none⟩ = some (.int .i64 n)) (first | go_keep | (rw [k5.cell sz4 (fun h => hne4 h)]; assumption))
                  ((go_at_call 22; refine (back_num br s p (up n) hup rest _ (by exact r4) hple hs40 HR.out 0 hN.out).mono ?_; rintro e w5 ⟨rfl, r5, k5⟩))
                all_goals
                  have b5 : Below w0.heap.size w0 w5 := b4.drew.trans (k5.below b4.size (fun x hx h => by omega))
                  clear k5 r4 b4 e1
                  go_wp2_with fail
                  refine (rerr_any br s _ 0 _ r5).mono ?_
                  rintro e w6 ⟨rfl, rfl⟩
                  go_wp2
                  go_roundw
                  case rel => exact ⟨j + 1, by go_num, by omega, by rw [HST2.out]; exact r5, b5⟩
                  case measure => simp [intOf]; omega
              · have hN : Hid (n = ((up n : Nat) : Int)) := by show n = _; unfold up; omega
                have hup : up n < 9223372036854775808 := by unfold up; omega
                go_wp2_with fail
                generalize hW4 : wr.alloc _ = w4
                have hsb : w4.heap[wr.heap.size]? = some (.cells #[.int .i64 0, .int .i64 n, .string tx, .int .u64 (u : Int), .bool is] 34 (0, 0)) := by rw [← hW4]; exact heap_alloc_new wr _
                have e1 : w4.cell? ⟨wr.heap.size, 1, none⟩ = some (.int .i64 n) := by rw [cell_of_row w4 _ 1 _ _ _ hsb]; rfl
                have r4 : IsR br s (p : Int) 0 w4 := by rw [← hW4]; exact hr.keep ((Keeps.refl (fun _ => False) wr).alloc _) (fun h => h)
                have b4 : Below w0.heap.size w0 w4 := by rw [← hW4]; exact hbj.alloc hB4 _
                have sz4 : wr.heap.size < w4.heap.size := (Array.getElem?_eq_some_iff.1 hsb).1
                clear hW4 hsb hr hbj d0 d1 d2 d3 d4
                go_region_held3 (fun w' => w'.cell? ⟨wr.heap.size, 1, none⟩ = some (.int .i64 n)) (first | go_keep | (rw [k5.cell sz4 (fun h => hne4 h)]; assumption))
                  ((go_at_call 22; refine (back_num br s p (up n) hup rest _ (by exact r4) hple hs40 HR.out n hN.out).mono ?_; rintro e w5 ⟨rfl, r5, k5⟩))
                all_goals
                  have b5 : Below w0.heap.size w0 w5 := b4.drew.trans (k5.below b4.size (fun x hx h => by omega))
                  clear k5 r4 b4 e1
                  go_wp2_with fail
                  refine (rerr_any br s _ 0 _ r5).mono ?_
                  rintro e w6 ⟨rfl, rfl⟩
                  go_wp2
                  go_roundw
                  case rel => exact ⟨j + 1, by go_num, by omega, by rw [HST2.out]; exact r5, b5⟩
                  case measure => simp [intOf]; omega
            · have b0 : (kind == 0) = false := by rw [beq_eq_false_iff_ne]; exact hk0
              by_cases hk1 : kind = 1
              · subst hk1
                rw [bytes_kind1 _ rfl] at hrest hstep
                simp only at hrest hstep
                have HR := aside hrest
                have HST2 := aside hstep
                clear hrest hstep hk0
                go_wp2_with fail
                generalize hW4 : wr.alloc _ = w4
                have hsb : w4.heap[wr.heap.size]? = some (.cells #[.int .i64 1, .int .i64 n, .string tx, .int .u64 (u : Int), .bool is] 34 (0, 0)) := by rw [← hW4]; exact heap_alloc_new wr _
                have e1 : w4.cell? ⟨wr.heap.size, 2, none⟩ = some (.string tx) := by rw [cell_of_row w4 _ 2 _ _ _ hsb]; rfl
                have r4 : IsR br s (p : Int) 0 w4 := by rw [← hW4]; exact hr.keep ((Keeps.refl (fun _ => False) wr).alloc _) (fun h => h)
                have b4 : Below w0.heap.size w0 w4 := by rw [← hW4]; exact hbj.alloc hB4 _
                have sz4 : wr.heap.size < w4.heap.size := (Array.getElem?_eq_some_iff.1 hsb).1
                clear hW4 hsb hr hbj d0 d1 d2 d3 d4
                go_region_held3 (fun w' => w'.cell? ⟨wr.heap.size, 2, none⟩ = some (.string tx)) (first | go_keep | (rw [k5.cell sz4 (fun h => hne4 h)]; assumption))
                  ((go_at_call 23; refine (back_text br s p tx rest _ (by exact r4) hple hs40 HR.out).mono ?_; rintro e w5 ⟨rfl, r5, k5⟩))
                all_goals
                  have b5 : Below w0.heap.size w0 w5 := b4.drew.trans (k5.below b4.size (fun x hx h => by omega))
                  clear k5 r4 b4 e1
                  go_wp2_with fail
                  refine (rerr_any br s _ 0 _ r5).mono ?_
                  rintro e w6 ⟨rfl, rfl⟩
                  go_wp2
                  go_roundw
                  case rel => exact ⟨j + 1, by go_num, by omega, by rw [HST2.out]; exact r5, b5⟩
                  case measure => simp [intOf]; omega
              · have b1 : (kind == 1) = false := by rw [beq_eq_false_iff_ne]; exact hk1
                by_cases hk2 : kind = 2
                · subst hk2
                  rw [bytes_kind2 _ rfl] at hrest hstep
                  simp only at hrest hstep
                  have HR := aside hrest
                  have HST2 := aside hstep
                  have HNU := aside nu
                  clear hrest hstep hk0 hk1 nu
                  go_wp2_with fail
                  generalize hW4 : wr.alloc _ = w4
                  have hsb : w4.heap[wr.heap.size]? = some (.cells #[.int .i64 2, .int .i64 n, .string tx, .int .u64 (u : Int), .bool is] 34 (0, 0)) := by rw [← hW4]; exact heap_alloc_new wr _
                  have e1 : w4.cell? ⟨wr.heap.size, 3, none⟩ = some (.int .u64 (u : Int)) := by rw [cell_of_row w4 _ 3 _ _ _ hsb]; rfl
                  have r4 : IsR br s (p : Int) 0 w4 := by rw [← hW4]; exact hr.keep ((Keeps.refl (fun _ => False) wr).alloc _) (fun h => h)
                  have b4 : Below w0.heap.size w0 w4 := by rw [← hW4]; exact hbj.alloc hB4 _
                  have sz4 : wr.heap.size < w4.heap.size := (Array.getElem?_eq_some_iff.1 hsb).1
                  clear hW4 hsb hr hbj d0 d1 d2 d3 d4
                  go_region_held3 (fun w' => w'.cell? ⟨wr.heap.size, 3, none⟩ = some (.int .u64 (u : Int))) (first | go_keep | (rw [k5.cell sz4 (fun h => hne4 h)]; assumption))
                    ((go_at_call 24; refine (back_word br s p u HNU.out rest _ (by exact r4) hple hs40 HR.out).mono ?_; rintro e w5 ⟨rfl, r5, k5⟩))
                  all_goals
                    have b5 : Below w0.heap.size w0 w5 := b4.drew.trans (k5.below b4.size (fun x hx h => by omega))
                    clear k5 r4 b4 e1
                    go_wp2_with fail
                    refine (rerr_any br s _ 0 _ r5).mono ?_
                    rintro e w6 ⟨rfl, rfl⟩
                    go_wp2
                    go_roundw
                    case rel => exact ⟨j + 1, by go_num, by omega, by rw [HST2.out]; exact r5, b5⟩
                    case measure => simp [intOf]; omega
                · have b2 : (kind == 2) = false := by rw [beq_eq_false_iff_ne]; exact hk2
                  by_cases hk3 : kind = 3
                  · subst hk3
                    rw [bytes_kind3 _ rfl] at hrest hstep
                    simp only at hrest hstep
                    have HR := aside hrest
                    have HST2 := aside hstep
                    clear hrest hstep hk0 hk1 hk2
                    go_wp2_with fail
                    generalize hW4 : wr.alloc _ = w4
                    have hsb : w4.heap[wr.heap.size]? = some (.cells #[.int .i64 3, .int .i64 n, .string tx, .int .u64 (u : Int), .bool is] 34 (0, 0)) := by rw [← hW4]; exact heap_alloc_new wr _
                    have e1 : w4.cell? ⟨wr.heap.size, 4, none⟩ = some (.bool is) := by rw [cell_of_row w4 _ 4 _ _ _ hsb]; rfl
                    have r4 : IsR br s (p : Int) 0 w4 := by rw [← hW4]; exact hr.keep ((Keeps.refl (fun _ => False) wr).alloc _) (fun h => h)
                    have b4 : Below w0.heap.size w0 w4 := by rw [← hW4]; exact hbj.alloc hB4 _
                    have sz4 : wr.heap.size < w4.heap.size := (Array.getElem?_eq_some_iff.1 hsb).1
                    clear hW4 hsb hr hbj d0 d1 d2 d3 d4
                    go_region_held3 (fun w' => w'.cell? ⟨wr.heap.size, 4, none⟩ = some (.bool is)) (first | go_keep | (rw [k5.cell sz4 (fun h => hne4 h)]; assumption))
                      ((go_at_call 25; refine (back_flag br s p is rest _ (by exact r4) hple hs40 HR.out).mono ?_; rintro e w5 ⟨rfl, r5, k5⟩))
                    all_goals
                      have b5 : Below w0.heap.size w0 w5 := b4.drew.trans (k5.below b4.size (fun x hx h => by omega))
                      clear k5 r4 b4 e1
                      go_wp2_with fail
                      refine (rerr_any br s _ 0 _ r5).mono ?_
                      rintro e w6 ⟨rfl, rfl⟩
                      go_wp2
                      go_roundw
                      case rel => exact ⟨j + 1, by go_num, by omega, by rw [HST2.out]; exact r5, b5⟩
                      case measure => simp [intOf]; omega
                  · have b3 : (kind == 3) = false := by rw [beq_eq_false_iff_ne]; exact hk3
                    rw [bytes_other _ hk0 hk1 hk2 hk3] at hrest hstep
                    have HST2 := aside hstep
                    clear hrest hstep hk0 hk1 hk2 hk3
                    go_wp2_with fail
                    generalize hW4 : wr.alloc _ = w4
                    have r4 : IsR br s (p : Int) 0 w4 := by rw [← hW4]; exact hr.keep ((Keeps.refl (fun _ => False) wr).alloc _) (fun h => h)
                    have b4 : Below w0.heap.size w0 w4 := by rw [← hW4]; exact hbj.alloc hB4 _
                    clear hW4 hr hbj d0 d1 d2 d3 d4
                    refine (rerr_any br s _ 0 _ r4).mono ?_
                    rintro e w6 ⟨rfl, rfl⟩
                    go_wp2
                    go_roundw
                    case rel => exact ⟨j + 1, by go_num, by omega, by rw [HST2.out]; exact r4, b4⟩
                    case measure => simp [intOf]; omega
        · have hjk : j = k := by omega
          subst hjk
          have hs40 : s.size ≤ 1099511627776 := by rw [hsz]; have := HLL.out; omega
          have hdone : Hid (doneOf ((s.size : Int) - ((allB T j).length : Int)) 0 = 0) := by show doneOf _ _ = _; rw [hsz]; simp [doneOf]
          have hleft : Hid ((s.size : Int) - ((allB T j).length : Int) = 0) := by show _ = _; rw [hsz]; omega
          have hpl : ((allB T j).length : Int) ≤ (s.size : Int) := by rw [hsz]; omega
          have HR := aside hr
          clear hdat hsz hr r3 b3
          go_wp2_with fail
          refine (rdone_any br s _ 0 _ HR.out (by omega) hpl hs40).mono ?_
          rintro e w6 ⟨rfl, nq, rfl⟩
          rw [hdone.out]
          go_wp2_with fail
          refine (rleft_any br s _ 0 _ (by exact HR.out) (by omega) hpl hs40).mono ?_
          rintro e w7 ⟨rfl, nq2, rfl⟩
          rw [hleft.out]
          go_wp2
          go_ret
          exact ⟨rfl, hbj.trans ⟨rfl, rfl, rfl, Nat.le_refl _, fun _ _ => rfl⟩⟩

set_option maxHeartbeats 400000 in
theorem back_beyond (a : Option Addr) (len cap : Nat) (T : Nat → Stp) (w : World) (h : StepsAt w a len cap T) (hb : ¬ len + tot T len ≤ 2147483647) :
    Calls Try.prog 5 #[.slice a len cap] w fun e w' => e = .returned (.bool true) ∧ Below w.heap.size w w' := by
  have hbe : beyondB T len = true := by simp only [beyondB, decide_eq_true_eq]; omega
  have HS := aside h
  clear h hb
  go_enter Try.func5, Try.ntmps5
  go_wp2_with fail
  refine (beyond_any a len cap T _ HS.out).mono ?_
  rintro e w0 ⟨rfl, rfl⟩
  rw [hbe]
  go_wp2
  go_ret
  exact ⟨rfl, Below.refl _ _⟩

theorem back_walk (a : Option Addr) (len cap : Nat) (T : Nat → Stp) (w : World) (h : StepsAt w a len cap T) :
    Calls Try.prog 5 #[.slice a len cap] w fun e w' => e = .returned (.bool true) ∧ Below w.heap.size w w' := by
  by_cases hb : len + tot T len ≤ 2147483647
  · exact back_in a len cap T w h hb
  · exact back_beyond a len cap T w h hb

end Go.Proofs.Ytccbmppmnddkpaa

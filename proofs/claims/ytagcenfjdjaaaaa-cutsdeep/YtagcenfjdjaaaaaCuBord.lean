/-
  Borders of the code and of the document: the keys at which parts begin.
-/
import Derived.Test.YtagcenfjdjaaaaaCuKeys
import Derived.Test.YtagcenfjdjaaaaaCuStart
namespace Go.Proofs.Ytagcenfjdjaaaaa
open Go.RowKit
set_option linter.unusedVariables false

/-- The border behind part j. -/
def bdr (n p : Nat) (S : Nat → ByteArray) (j : Nat) : ByteArray := S (stt n p (j + 1))

theorem strUpto_succ (f : Nat → ByteArray) (k : Nat) : strCells (strUpto f (k + 1)) = strCells (strUpto f k) ++ [.string (f k)] := by
  unfold strCells strUpto
  rw [List.range_succ, List.map_append, List.map_append]
  rfl

/-- Texts that a call owns, to those who read them. -/
theorem strs_own {w : World} {B g n cap : Nat} {f : Nat → ByteArray} (h : w.ownsRow B 9 1 (.slice (some ⟨g, 0, none⟩) n cap) n (strCells (strUpto f n))) (hb : n * 16 ≤ 281474976710656) : StrsIn w.heap.size w (some ⟨g, 0, none⟩) n cap f := by
  have hcap : n ≤ cap ∧ g < w.heap.size := by
    rcases h.2 with ⟨h1, -⟩ | ⟨g', cap', cur, h1, -, h3, h2, -⟩
    · cases h1
    · cases h1; exact ⟨h2, lies h3⟩
  refine ⟨hcap.1, hb, .inr ⟨g, 0, rfl, hcap.2, fun i hi => ?_⟩⟩
  have c := h.cells (g := g) rfl i (.string (f i)) (by unfold strCells strUpto; rw [List.getElem?_map, List.getElem?_map, List.getElem?_range hi]; rfl)
  have e : (⟨g, 0, none⟩ : Addr).add i = ⟨g, 0 + i, none⟩ := by unfold Addr.add; split <;> simp_all
  rwa [e] at c

set_option maxHeartbeats 1600000 in
theorem bordersOf_bad (a : Option Addr) (n cap : Nat) (p : Int) (w : World) (h : ¬ (1 ≤ (n : Int) ∧ (n : Int) ≤ 256 ∧ 1 ≤ p ∧ p ≤ (n : Int))) :
    Calls Try.prog 34 #[.slice a n cap, .int .i64 p] w fun e w' => e = .returned (.tuple #[.slice none 0 0, .int .i64 1]) ∧ w' = w := by
  go_enter Try.func34, Try.ntmps34
  go_wp2_with fail
  refine (starts_bad (n : Int) p _ h).mono ?_
  rintro e w1 ⟨rfl, rfl⟩
  go_wp2
  exact bodyPost_ret (v := .tuple #[.slice none 0 0, .int .i64 1]) (by simp [results, Try.results34, go_sem]) rfl ⟨rfl, rfl⟩

set_option maxHeartbeats 6400000 in
set_option maxRecDepth 100000 in
theorem bordersOf_any (a : Option Addr) (n cap q : Nat) (S : Nat → ByteArray) (w : World) (h : StrsIn w.heap.size w a n cap S) (hqn : q + 1 ≤ n) (hn : n ≤ 256) :
    Calls Try.prog 34 #[.slice a n cap, .int .i64 ((q : Int) + 1)] w fun e w' => ∃ g cp, e = .returned (.tuple #[.slice (some ⟨g, 0, none⟩) q cp, .int .i64 0]) ∧ w'.ownsRow w.heap.size 9 1 (.slice (some ⟨g, 0, none⟩) q cp) q (strCells (strUpto (bdr n (q + 1) S) q)) ∧ g < w'.heap.size ∧ Below w.heap.size w w' := by
  obtain ⟨i0, hi0, hz0, hz1, hz2⟩ := infoStr_parts
  have hlc := h.1
  have HH := aside h.2.2
  clear h
  go_enter Try.func34, Try.ntmps34
  go_wp2_with fail
  refine (starts_any n (q + 1) _ (by omega) hqn hn).mono ?_
  rintro e w1 ⟨g1, c1, rfl, o1, l1, b1⟩
  have O1 := aside o1
  have B1 := aside b1
  have HB1 := aside b1.size
  have L1 := aside l1
  have hpw : IntKind.i64.wrap (q : Int) = (q : Int) := by rw [IntKind.wrap_i64]; omega
  have hpc : q + 1 ≤ c1 := by
    rcases o1.2 with ⟨h1, -⟩ | ⟨g', cap', cur, h1, -, -, h2, -⟩
    · cases h1
    · cases h1; exact h2
  have h0p : (0 : Int) ≤ (q : Int) := by omega
  clear o1 b1 l1
  go_wp2_with (at_make; refine wpList_make_own _ rfl _ _ 24 rfl w1.heap.size 9 i0 (.string ⟨#[]⟩) 1 Try.underlying24 hi0 hz0 hz1 _ _ _ q rfl rfl ?b1 ?b2 ?b3 (by simp) ?_)
  case b1 => omega
  case b2 => first | omega | (rw [hz2]; omega)
  case b3 => unfold maxLen; omega
  intro w2 hown0 hgrow0
  have hb2 : Below w1.heap.size w1 w2 := (Below.refl _ w1).grown hgrow0 (Nat.le_refl _) (fun k e => by cases e)
  have HO0 := aside hown0
  have HB2 := aside hb2
  clear hown0 hgrow0 hb2
  by_cases hc1 : c1 = 1
  · obtain rfl : q = 0 := by omega
    subst hc1
    go_wp2
    go_loopw [8, 27] (fun v i wr => ∃ g cp, v = .slice (some ⟨g, 0, none⟩) 0 cp ∧ i = .int .i64 0 ∧ wr.ownsRow w1.heap.size 9 1 (.slice (some ⟨g, 0, none⟩) 0 cp) 0 [] ∧ Below w1.heap.size w1 wr) (fun _ _ _ => 0)
    case atStart => exact ⟨_, _, rfl, rfl, HO0.out, HB2.out⟩
    case round =>
      obtain ⟨g, cp, rfl, rfl, hown, hnx⟩ := hrel
      have HO := aside hown
      have HX := aside hnx
      clear hown hnx
      go_wp2
      exact bodyPost_ret (v := .tuple #[.slice (some ⟨g, 0, none⟩) 0 cp, .int .i64 0]) (by simp [results, Try.results34, go_sem]) rfl ⟨g, cp, rfl, row_base HO.out HB1.out, (HO.out.lt g rfl).2, B1.out.trans (HX.out.mono HB1.out)⟩
  · have hp1 : (1 : Int) ≤ (q : Int) + 1 := by omega
    go_wp2
    go_loopw [8, 27] (fun v i wr => ∃ g k cp, k ≤ q ∧ v = .slice (some ⟨g, 0, none⟩) k cp ∧ i = .int .i64 ((k : Nat) : Int) ∧ wr.ownsRow w1.heap.size 9 1 (.slice (some ⟨g, 0, none⟩) k cp) k (strCells (strUpto (bdr n (q + 1) S) k)) ∧ Below w1.heap.size w1 wr) (fun _ i _ => q - (intOf i).toNat)
    case atStart => exact ⟨_, 0, _, Nat.zero_le _, rfl, rfl, HO0.out, HB2.out⟩
    case round =>
      obtain ⟨g, k, cp, hk, rfl, rfl, hown, hnx⟩ := hrel
      have HX := aside hnx
      by_cases hlt : (k : Int) < (q : Int)
      · have hx := stt_lt (n := n) (p := q + 1) (j := k + 1) (by omega) (by omega) (by omega)
        have d0 : wr.cell? ⟨g1, 1 + k, none⟩ = some (.int .i64 (stt n (q + 1) (k + 1) : Int)) := by
          have := (hnx.cell (p := ⟨g1, k + 1, none⟩) L1.out).trans (stt_at O1.out (j := k + 1) (by omega))
          first | exact this | (rw [Nat.add_comm 1 k]; exact this)
        have HS := aside (strUpto_succ (bdr n (q + 1) S) k)
        have hbd : bdr n (q + 1) S k = S (stt n (q + 1) (k + 1)) := rfl
        rcases HH.out with h0 | ⟨b, off, rfl, hb, hc⟩
        · omega
        have c0 := (HX.out.cell (p := ⟨b, off + stt n (q + 1) (k + 1), none⟩) (Nat.lt_of_lt_of_le hb HB1.out)).trans ((B1.out.cell (p := ⟨b, off + stt n (q + 1) (k + 1), none⟩) hb).trans (hc _ hx))
        rw [← hbd] at c0
        generalize bdr n (q + 1) S k = y at *
        generalize stt n (q + 1) (k + 1) = x at *
        have hx0 : (0 : Int) ≤ (x : Int) := by omega
        have hx1 : (x : Int) < (n : Int) := by omega
        have hk0 : (0 : Int) ≤ (k : Int) := by omega
        have hk1 : (0 : Int) ≤ (k : Int) + 1 := by omega
        have hqw : IntKind.i64.wrap ((k : Int) + 1) = (k : Int) + 1 := by rw [IntKind.wrap_i64]; omega
        have hqw2 : IntKind.i64.wrap ((k : Int) + 1 + 1) = (k : Int) + 1 + 1 := by rw [IntKind.wrap_i64]; omega
        skip
        have HNS := aside hnx.size
        clear hc hbd hnx
        go_wp2_with (at_builtin; refine wpList_append_lies _ rfl _ _ _ rfl w1.heap.size 9 i0 (.string ⟨#[]⟩) 1 16 Try.underlying24 hi0 hz0 hz1 hz2 rfl (by decide) _ _ _ (by rfl) (hown.alloc _) ⟨wr.heap.size, 0, none⟩ 1 1 [.string y] (by rfl) (by rfl) (World.news_of_block (cs := #[.string y]) (t := 9) (fr := (0, 0)) (heap_alloc_new wr _)) (by simp [Value.oneCell']) (by omega) (by unfold maxLen; omega) (by omega) (by have := HNS.out; simp; omega) (wr.heap.size + 1) (by simp) ?_; intro g5 cp5 w5 hown1 hgrow hat hlt1; refine Hid.out ?_)
        refine aside ?_
        have HO := aside (show w5.ownsRow w1.heap.size 9 1 (.slice (some ⟨g5, 0, none⟩) (k + 1) cp5) (k + 1) (strCells (strUpto (bdr n (q + 1) S) (k + 1))) from by rw [HS.out]; exact hown1)
        have HY := aside (show Below w1.heap.size w1 w5 from (HX.out.alloc HX.out.size _).grown hgrow (by have := HX.out.size; simp; omega) (fun j hj => (hown.lt j hj).1))
        clear hown hown1 hgrow hat hlt1 c0 d0
        go_wp2
        go_roundw
        case rel => exact ⟨g5, k + 1, cp5, by omega, by rfl, by go_num, HO.out, HY.out⟩
        case measure => simp [intOf]; omega
      · obtain rfl : q = k := by omega
        have HO := aside hown
        clear hown hnx
        go_wp2
        exact bodyPost_ret (v := .tuple #[.slice (some ⟨g, 0, none⟩) q cp, .int .i64 0]) (by simp [results, Try.results34, go_sem]) rfl ⟨g, cp, rfl, row_base HO.out HB1.out, (HO.out.lt g rfl).2, B1.out.trans (HX.out.mono HB1.out)⟩

set_option maxHeartbeats 1600000 in
theorem borders_key (a : Option Addr) (n cap : Nat) (p c : Int) (S : Nat → ByteArray) (w : World) (h : StrsIn w.heap.size w a n cap S) (hc : keyE S n = c) (hc0 : ¬ c = 0) :
    Calls Try.prog 18 #[.slice a n cap, .int .i64 p] w fun e w' => e = .returned (.tuple #[.slice none 0 0, .int .i64 c]) ∧ Below w.heap.size w w' := by
  have H := aside (checkKeys_any a n cap S w h)
  rw [hc] at H
  clear h hc
  go_enter Try.func18, Try.ntmps18
  go_wp2_with fail
  refine H.out.mono ?_
  rintro e w1 ⟨rfl, b1⟩
  go_wp2
  exact bodyPost_ret (v := .tuple #[.slice none 0 0, .int .i64 c]) (by simp [results, Try.results18, go_sem]) rfl ⟨rfl, b1⟩

set_option maxHeartbeats 1600000 in
theorem borders_arg (a : Option Addr) (n cap : Nat) (p : Int) (S : Nat → ByteArray) (w : World) (h : StrsIn w.heap.size w a n cap S) (hc : keyE S n = 0) (hb : ¬ (1 ≤ (n : Int) ∧ (n : Int) ≤ 256 ∧ 1 ≤ p ∧ p ≤ (n : Int))) :
    Calls Try.prog 18 #[.slice a n cap, .int .i64 p] w fun e w' => e = .returned (.tuple #[.slice none 0 0, .int .i64 1]) ∧ Below w.heap.size w w' := by
  have H := aside (checkKeys_any a n cap S w h)
  have HB := aside hb
  rw [hc] at H
  clear h hc hb
  go_enter Try.func18, Try.ntmps18
  go_wp2_with fail
  refine H.out.mono ?_
  rintro e w1 ⟨rfl, b1⟩
  go_wp2_with fail
  refine (bordersOf_bad a n cap p _ HB.out).mono ?_
  rintro e w2 ⟨rfl, rfl⟩
  go_wp2
  exact bodyPost_ret (v := .tuple #[.slice none 0 0, .int .i64 1]) (by simp [results, Try.results18, go_sem]) rfl ⟨rfl, b1⟩

set_option maxHeartbeats 1600000 in
theorem borders_ok (a : Option Addr) (n cap q : Nat) (S : Nat → ByteArray) (w : World) (h : StrsIn w.heap.size w a n cap S) (hc : keyE S n = 0) (hqn : q + 1 ≤ n) (hn : n ≤ 256) :
    Calls Try.prog 18 #[.slice a n cap, .int .i64 ((q : Int) + 1)] w fun e w' => ∃ g cp, e = .returned (.tuple #[.slice (some ⟨g, 0, none⟩) q cp, .int .i64 0]) ∧ w'.ownsRow w.heap.size 9 1 (.slice (some ⟨g, 0, none⟩) q cp) q (strCells (strUpto (bdr n (q + 1) S) q)) ∧ g < w'.heap.size ∧ Below w.heap.size w w' := by
  have H := aside (checkKeys_any a n cap S w h)
  have HS := aside h
  rw [hc] at H
  clear h hc
  go_enter Try.func18, Try.ntmps18
  go_wp2_with fail
  refine H.out.mono ?_
  rintro e w1 ⟨rfl, b1⟩
  have B1 := aside b1
  clear b1
  go_wp2_with fail
  refine (bordersOf_any a n cap q S _ (HS.out.up B1.out B1.out.size) hqn hn).mono ?_
  rintro e w2 ⟨g, cp, rfl, o2, l2, b2⟩
  have O2 := aside o2
  have B2 := aside (bthen B1.out b2)
  clear o2 b2
  go_wp2
  exact bodyPost_ret (v := .tuple #[.slice (some ⟨g, 0, none⟩) q cp, .int .i64 0]) (by simp [results, Try.results18, go_sem]) rfl ⟨g, cp, rfl, row_base O2.out B1.out.size, l2, B2.out⟩

set_option maxHeartbeats 1600000 in
theorem rborders_key (a : Option Addr) (n cap : Nat) (p c : Int) (S : Nat → ByteArray) (w : World) (h : StrsIn w.heap.size w a n cap S) (hc : keyE S n = c) (hc0 : ¬ c = 0) :
    Calls Try.prog 19 #[.slice a n cap, .int .i64 p] w fun e w' => e = .returned (.tuple #[.slice none 0 0, .int .i64 c]) ∧ Below w.heap.size w w' := by
  have H := aside (rrise_any a n cap S w h)
  rw [hc] at H
  clear h hc
  go_enter Try.func19, Try.ntmps19
  go_wp2_with fail
  refine H.out.mono ?_
  rintro e w1 ⟨rfl, b1⟩
  go_wp2
  exact bodyPost_ret (v := .tuple #[.slice none 0 0, .int .i64 c]) (by simp [results, Try.results19, go_sem]) rfl ⟨rfl, b1⟩

set_option maxHeartbeats 1600000 in
theorem rborders_arg (a : Option Addr) (n cap : Nat) (p : Int) (S : Nat → ByteArray) (w : World) (h : StrsIn w.heap.size w a n cap S) (hc : keyE S n = 0) (hb : ¬ (1 ≤ (n : Int) ∧ (n : Int) ≤ 256 ∧ 1 ≤ p ∧ p ≤ (n : Int))) :
    Calls Try.prog 19 #[.slice a n cap, .int .i64 p] w fun e w' => e = .returned (.tuple #[.slice none 0 0, .int .i64 1]) ∧ Below w.heap.size w w' := by
  have H := aside (rrise_any a n cap S w h)
  have HB := aside hb
  rw [hc] at H
  clear h hc hb
  go_enter Try.func19, Try.ntmps19
  go_wp2_with fail
  refine H.out.mono ?_
  rintro e w1 ⟨rfl, b1⟩
  go_wp2_with fail
  refine (rstarts_bad (n : Int) p _ HB.out).mono ?_
  rintro e w2 ⟨rfl, rfl⟩
  go_wp2
  exact bodyPost_ret (v := .tuple #[.slice none 0 0, .int .i64 1]) (by simp [results, Try.results19, go_sem]) rfl ⟨rfl, b1⟩

set_option maxHeartbeats 6400000 in
set_option maxRecDepth 100000 in
theorem rborders_ok (a : Option Addr) (n cap q : Nat) (S : Nat → ByteArray) (w : World) (h : StrsIn w.heap.size w a n cap S) (hc : keyE S n = 0) (hqn : q + 1 ≤ n) (hn : n ≤ 256) :
    Calls Try.prog 19 #[.slice a n cap, .int .i64 ((q : Int) + 1)] w fun e w' => ∃ g cp, e = .returned (.tuple #[.slice (some ⟨g, 0, none⟩) q cp, .int .i64 0]) ∧ w'.ownsRow w.heap.size 9 1 (.slice (some ⟨g, 0, none⟩) q cp) q (strCells (strUpto (bdr n (q + 1) S) q)) ∧ g < w'.heap.size ∧ Below w.heap.size w w' := by
  obtain ⟨i0, hi0, hz0, hz1, hz2⟩ := infoStr_parts
  have H := aside (rrise_any a n cap S w h)
  have hlc := h.1
  have HH := aside h.2.2
  rw [hc] at H
  clear h hc
  go_enter Try.func19, Try.ntmps19
  go_wp2_with fail
  refine H.out.mono ?_
  rintro e w0 ⟨rfl, b0⟩
  have B0 := aside b0
  clear b0
  go_wp2_with fail
  refine (rstarts_any n (q + 1) _ (by omega) hqn hn).mono ?_
  rintro e w1 ⟨g1, c1, rfl, o1, l1, b1⟩
  have O1 := aside o1
  have B1 := aside (bthen B0.out b1)
  have HB1 := aside B1.out.size
  have L1 := aside l1
  have hpc : q + 1 ≤ c1 := by
    rcases o1.2 with ⟨h1, -⟩ | ⟨g', cap', cur, h1, -, -, h2, -⟩
    · cases h1
    · cases h1; exact h2
  have HO0 : Hid ((w1.alloc (.cells #[] 9)).ownsRow w1.heap.size 9 1 (.slice (some ⟨w1.heap.size, 0, none⟩) 0 0) 0 []) := aside (World.ownsRow_made w1 #[] 0 (Nat.le_refl _) (Nat.zero_le _) rfl)
  have HB2 := aside (bnew w1 (.cells #[] 9))
  clear o1 b1 l1
  go_wp2
  go_loopw [9, 10] (fun v i wr => ∃ g k cp, k ≤ q ∧ v = .slice (some ⟨g, 0, none⟩) k cp ∧ i = .int .i64 ((k : Int) + 1) ∧ wr.ownsRow w1.heap.size 9 1 (.slice (some ⟨g, 0, none⟩) k cp) k (strCells (strUpto (bdr n (q + 1) S) k)) ∧ Below w1.heap.size w1 wr) (fun _ i _ => q + 1 - (intOf i).toNat)
  case atStart => exact ⟨_, 0, _, Nat.zero_le _, rfl, rfl, HO0.out, HB2.out⟩
  case round =>
    obtain ⟨g, k, cp, hk, rfl, rfl, hown, hnx⟩ := hrel
    have HX := aside hnx
    by_cases hlt : (k : Int) + 1 < (q : Int) + 1
    · have hx := stt_lt (n := n) (p := q + 1) (j := k + 1) (by omega) (by omega) (by omega)
      have d0 : wr.cell? ⟨g1, k + 1, none⟩ = some (.int .i64 (stt n (q + 1) (k + 1) : Int)) := by
        have := (hnx.cell (p := ⟨g1, k + 1, none⟩) L1.out).trans (stt_at O1.out (j := k + 1) (by omega))
        first | exact this | (rw [Nat.add_comm 1 k]; exact this)
      have HS := aside (strUpto_succ (bdr n (q + 1) S) k)
      have hbd : bdr n (q + 1) S k = S (stt n (q + 1) (k + 1)) := rfl
      rcases HH.out with h0 | ⟨b, off, rfl, hb, hc⟩
      · omega
      have c0 := (HX.out.cell (p := ⟨b, off + stt n (q + 1) (k + 1), none⟩) (Nat.lt_of_lt_of_le hb HB1.out)).trans ((B1.out.cell (p := ⟨b, off + stt n (q + 1) (k + 1), none⟩) hb).trans (hc _ hx))
      rw [← hbd] at c0
      generalize bdr n (q + 1) S k = y at *
      generalize stt n (q + 1) (k + 1) = x at *
      have hx0 : (0 : Int) ≤ (x : Int) := by omega
      have hx1 : (x : Int) < (n : Int) := by omega
      have hk0 : (0 : Int) ≤ (k : Int) := by omega
      have hk1 : (0 : Int) ≤ (k : Int) + 1 := by omega
      have hqw : IntKind.i64.wrap ((k : Int) + 1) = (k : Int) + 1 := by rw [IntKind.wrap_i64]; omega
      have hqw2 : IntKind.i64.wrap ((k : Int) + 1 + 1) = (k : Int) + 1 + 1 := by rw [IntKind.wrap_i64]; omega
      have hlt2 : (k : Int) < (q : Int) := by omega
      have HNS := aside hnx.size
      clear hc hbd hnx
      go_wp2_with (at_builtin; refine wpList_append_lies _ rfl _ _ _ rfl w1.heap.size 9 i0 (.string ⟨#[]⟩) 1 16 Try.underlying24 hi0 hz0 hz1 hz2 rfl (by decide) _ _ _ (by rfl) (hown.alloc _) ⟨wr.heap.size, 0, none⟩ 1 1 [.string y] (by rfl) (by rfl) (World.news_of_block (cs := #[.string y]) (t := 9) (fr := (0, 0)) (heap_alloc_new wr _)) (by simp [Value.oneCell']) (by omega) (by unfold maxLen; omega) (by omega) (by have := HNS.out; simp; omega) (wr.heap.size + 1) (by simp) ?_; intro g5 cp5 w5 hown1 hgrow hat hlt1; refine Hid.out ?_)
      refine aside ?_
      have HO := aside (show w5.ownsRow w1.heap.size 9 1 (.slice (some ⟨g5, 0, none⟩) (k + 1) cp5) (k + 1) (strCells (strUpto (bdr n (q + 1) S) (k + 1))) from by rw [HS.out]; exact hown1)
      have HY := aside (show Below w1.heap.size w1 w5 from (HX.out.alloc HX.out.size _).grown hgrow (by have := HX.out.size; simp; omega) (fun j hj => (hown.lt j hj).1))
      clear hown hown1 hgrow hat hlt1 c0 d0
      go_wp2
      go_roundw
      case rel => exact ⟨g5, k + 1, cp5, by omega, by rfl, by go_num, HO.out, HY.out⟩
      case measure => simp [intOf]; omega
    · obtain rfl : q = k := by omega
      have HO := aside hown
      clear hown hnx
      go_wp2
      exact bodyPost_ret (v := .tuple #[.slice (some ⟨g, 0, none⟩) q cp, .int .i64 0]) (by simp [results, Try.results19, go_sem]) rfl ⟨g, cp, rfl, row_base HO.out HB1.out, (HO.out.lt g rfl).2, B1.out.trans (HX.out.mono HB1.out)⟩

end Go.Proofs.Ytagcenfjdjaaaaa

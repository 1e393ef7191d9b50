/-
  Starts of the code and of the document: where parts begin.
  Borders of the code and of the document: the keys at which parts begin.
  Plain mathematics: keys that rise within a range, and the ranges of its split.
  Ranges of the code and of the document: a range split at keys.
-/
import Derived.Test.YtfkdhambbpkmpaaDoorBv16
import Derived.Laws.AppendOwn
import Derived.Test.YtfkdhambbpkmpaaDoorBv15
namespace Go.Proofs.YtfkdhambbpkmpaaDoor
open Go.RowKit
set_option linter.unusedVariables false
theorem infoInt : (Tryd.prog.info? 3).map (fun i => (i.zero, i.size, i.bytes)) = some (some (.int .i64 0), 1, 8) := by kernel_rfl
/-- Where the first k of p parts of n things begin. -/
def sttCells (n p k : Nat) : List Value := (List.range k).map fun j => .int .i64 (stt n p j : Int)
theorem sttCells_succ (n p k : Nat) : sttCells n p (k + 1) = sttCells n p k ++ [.int .i64 (stt n p k : Int)] := by
  unfold sttCells; rw [List.range_succ, List.map_append]; rfl
/-- A row of beginnings, to those who read it. -/
theorem stt_at {w : World} {B g p cap n : Nat} (h : w.ownsRow B 3 1 (.slice (some ⟨g, 0, none⟩) p cap) p (sttCells n p p)) {j : Nat} (hj : j < p) : w.cell? ⟨g, j, none⟩ = some (.int .i64 (stt n p j : Int)) := by
  have c := h.cells (g := g) rfl j (.int .i64 (stt n p j : Int)) (by unfold sttCells; rw [List.getElem?_map, List.getElem?_range hj]; rfl)
  have e : (⟨g, 0, none⟩ : Addr).add j = ⟨g, 0 + j, none⟩ := by unfold Addr.add; split <;> simp_all
  rw [e, Nat.zero_add] at c
  exact c
theorem quo_stt (k n p : Nat) : ((k : Int) * (n : Int)).tdiv (p : Int) = ((stt n p k : Nat) : Int) := by
  rw [Int.tdiv_eq_ediv_of_nonneg (Int.mul_nonneg (by omega) (by omega))]
  unfold stt
  rw [Int.natCast_ediv, Int.natCast_mul]
theorem mul_small {k n : Nat} (hk : k ≤ 256) (hn : n ≤ 256) : IntKind.i64.wrap ((k : Int) * (n : Int)) = (k : Int) * (n : Int) := by
  have h1 : (k : Int) * (n : Int) ≤ 256 * 256 := Int.mul_le_mul (by omega) (by omega) (by omega) (by omega)
  have h2 : 0 ≤ (k : Int) * (n : Int) := Int.mul_nonneg (by omega) (by omega)
  rw [IntKind.wrap_i64]; omega
set_option maxHeartbeats 3200000 in
set_option maxRecDepth 100000 in
theorem starts_any (n p : Nat) (w : World) (hp : 1 ≤ p) (hpn : p ≤ n) (hn : n ≤ 256) : Calls Tryd.prog 82 #[.int .i64 (n : Int), .int .i64 (p : Int)] w fun e w' => ∃ g cp, e = .returned (.tuple #[.slice (some ⟨g, 0, none⟩) p cp, .int .i64 0]) ∧ w'.ownsRow w.heap.size 3 1 (.slice (some ⟨g, 0, none⟩) p cp) p (sttCells n p p) ∧ g < w'.heap.size ∧ Below w.heap.size w w' := by
    obtain ⟨i0, hi0, hz0, hz1, hz2⟩ := info_parts infoInt
    have g1 : ¬ ((n : Int) < 1) := by omega
    have g2 : ¬ (256 < (n : Int)) := by omega
    have g3 : ¬ ((p : Int) < 1) := by omega
    have g4 : ¬ ((n : Int) < (p : Int)) := by omega
    have g5 : ¬ ((p : Int) = 0) := by omega
    go_enter Tryd.func82, Tryd.ntmps82
    go_wp2_with (at_make; refine wpList_make_own _ rfl _ _ 105 rfl w.heap.size 3 i0 (.int .i64 0) 1 Tryd.underlying105 hi0 hz0 hz1 _ _ _ p rfl rfl ?b1 ?b2 ?b3 (by simp) ?_)
    case b1 => omega
    case b2 => omega
    case b3 => unfold maxLen; omega
    intro w0 hown0 hgrow0
    have hb0 : Below w.heap.size w w0 := (Below.refl _ w).grown hgrow0 (Nat.le_refl _) (fun k e => by cases e)
    clear hgrow0
    go_wp2
    go_loopw [6, 26] (fun v i wr => ∃ k : Nat, k ≤ p ∧ i = .int .i64 (k : Int) ∧ wr.ownsRow w.heap.size 3 1 v k (sttCells n p k) ∧ (0 < k → ∃ g cp, v = .slice (some ⟨g, 0, none⟩) k cp) ∧ Below w.heap.size w wr) (fun _ i _ => p - (intOf i).toNat)
    case atStart => exact ⟨0, Nat.zero_le _, rfl, hown0, fun h => by omega, hb0⟩
    case round =>
      obtain ⟨k, hk, rfl, hown, hform, hnx⟩ := hrel
      by_cases hlt : (k : Int) < (p : Int)
      · have hmul := mul_small (k := k) (n := n) (by omega) hn
        have hquo := quo_stt k n p
        have hqw : IntKind.i64.wrap ((k : Int) + 1) = (k : Int) + 1 := by rw [IntKind.wrap_i64]; omega
        have hle := stt_le (n := n) (p := p) (j := k) hp (by omega)
        have hsw : IntKind.i64.wrap ((stt n p k : Nat) : Int) = ((stt n p k : Nat) : Int) := by rw [IntKind.wrap_i64]; omega
        have HS := aside (sttCells_succ n p k)
        generalize stt n p k = x at *
        clear hle hown0 hb0
        go_wp2_with (at_builtin; refine wpList_append_lies _ rfl _ _ _ rfl w.heap.size 3 i0 (.int .i64 0) 1 8 Tryd.underlying105 hi0 hz0 hz1 hz2 rfl (by decide) _ _ _ (by rfl) (hown.alloc _) ⟨wr.heap.size, 0, none⟩ 1 1 [.int .i64 (x : Int)] (by rfl) (by rfl) (World.news_of_block (cs := #[.int .i64 (x : Int)]) (t := 3) (fr := (0, 0)) (heap_alloc_new wr _)) (by simp [Value.oneCell']) (by omega) (by unfold maxLen; omega) (by omega) (by have := hnx.size; simp; omega) (wr.heap.size + 1) (by simp) ?_; intro g cp w1 hown1 hgrow hat hlt1; refine Hid.out ?_)
        refine aside ?_
        have HO := aside (show w1.ownsRow w.heap.size 3 1 (.slice (some ⟨g, 0, none⟩) (k + 1) cp) (k + 1) (sttCells n p (k + 1)) from by rw [HS.out]; exact hown1)
        have HB := aside (show Below w.heap.size w w1 from (hnx.alloc hnx.size _).grown hgrow (by have := hnx.size; simp; omega) (fun j hj => (hown.lt j hj).1))
        clear hown hown1 hgrow hat hlt1 hform hnx
        go_wp2
        go_roundw
        case rel => exact ⟨k + 1, by omega, by go_num, HO.out, fun _ => ⟨g, cp, rfl⟩, HB.out⟩
        case measure => simp [intOf]; omega
      · obtain rfl : p = k := by omega
        obtain ⟨g, cp, rfl⟩ := hform (by omega)
        have HO := aside hown
        have HB := aside hnx
        clear hown hnx hown0 hb0
        go_wp2
        exact bodyPost_ret (v := .tuple #[.slice (some ⟨g, 0, none⟩) p cp, .int .i64 0]) (by simp [results, Tryd.results82, go_sem]) rfl ⟨g, cp, rfl, HO.out, (HO.out.lt g rfl).2, HB.out⟩
set_option maxHeartbeats 3200000 in
set_option maxRecDepth 100000 in
theorem rstarts_any (n p : Nat) (w : World) (hp : 1 ≤ p) (hpn : p ≤ n) (hn : n ≤ 256) : Calls Tryd.prog 76 #[.int .i64 (n : Int), .int .i64 (p : Int)] w fun e w' => ∃ g cp, e = .returned (.tuple #[.slice (some ⟨g, 0, none⟩) p cp, .int .i64 0]) ∧ w'.ownsRow w.heap.size 3 1 (.slice (some ⟨g, 0, none⟩) p cp) p (sttCells n p p) ∧ g < w'.heap.size ∧ Below w.heap.size w w' := by
    obtain ⟨i0, hi0, hz0, hz1, hz2⟩ := info_parts infoInt
    have g1 : ¬ ((n : Int) < 1) := by omega
    have g2 : ¬ (256 < (n : Int)) := by omega
    have g3 : ¬ ((p : Int) < 1) := by omega
    have g4 : ¬ ((n : Int) < (p : Int)) := by omega
    have g5 : ¬ ((p : Int) = 0) := by omega
    go_enter Tryd.func76, Tryd.ntmps76
    have hown0 : (w.alloc (.cells #[] 3)).ownsRow w.heap.size 3 1 (.slice (some ⟨w.heap.size, 0, none⟩) 0 0) 0 [] := World.ownsRow_made w #[] 0 (Nat.le_refl _) (Nat.zero_le _) rfl
    have hb0 := (Below.refl _ w).alloc (Nat.le_refl _) (.cells #[] 3)
    go_wp2
    go_loopw [6, 7] (fun v i wr => ∃ k : Nat, k ≤ p ∧ i = .int .i64 (k : Int) ∧ wr.ownsRow w.heap.size 3 1 v k (sttCells n p k) ∧ (0 < k → ∃ g cp, v = .slice (some ⟨g, 0, none⟩) k cp) ∧ Below w.heap.size w wr) (fun _ i _ => p - (intOf i).toNat)
    case atStart => exact ⟨0, Nat.zero_le _, rfl, hown0, fun h => by omega, hb0⟩
    case round =>
      obtain ⟨k, hk, rfl, hown, hform, hnx⟩ := hrel
      by_cases hlt : (k : Int) < (p : Int)
      · have hmul := mul_small (k := k) (n := n) (by omega) hn
        have hquo := quo_stt k n p
        have hqw : IntKind.i64.wrap ((k : Int) + 1) = (k : Int) + 1 := by rw [IntKind.wrap_i64]; omega
        have hle := stt_le (n := n) (p := p) (j := k) hp (by omega)
        have hsw : IntKind.i64.wrap ((stt n p k : Nat) : Int) = ((stt n p k : Nat) : Int) := by rw [IntKind.wrap_i64]; omega
        have HS := aside (sttCells_succ n p k)
        generalize stt n p k = x at *
        clear hle hown0 hb0
        go_wp2_with (at_builtin; refine wpList_append_lies _ rfl _ _ _ rfl w.heap.size 3 i0 (.int .i64 0) 1 8 Tryd.underlying105 hi0 hz0 hz1 hz2 rfl (by decide) _ _ _ (by rfl) (hown.alloc _) ⟨wr.heap.size, 0, none⟩ 1 1 [.int .i64 (x : Int)] (by rfl) (by rfl) (World.news_of_block (cs := #[.int .i64 (x : Int)]) (t := 3) (fr := (0, 0)) (heap_alloc_new wr _)) (by simp [Value.oneCell']) (by omega) (by unfold maxLen; omega) (by omega) (by have := hnx.size; simp; omega) (wr.heap.size + 1) (by simp) ?_; intro g cp w1 hown1 hgrow hat hlt1; refine Hid.out ?_)
        refine aside ?_
        have HO := aside (show w1.ownsRow w.heap.size 3 1 (.slice (some ⟨g, 0, none⟩) (k + 1) cp) (k + 1) (sttCells n p (k + 1)) from by rw [HS.out]; exact hown1)
        have HB := aside (show Below w.heap.size w w1 from (hnx.alloc hnx.size _).grown hgrow (by have := hnx.size; simp; omega) (fun j hj => (hown.lt j hj).1))
        clear hown hown1 hgrow hat hlt1 hform hnx
        go_wp2
        go_roundw
        case rel => exact ⟨k + 1, by omega, by go_num, HO.out, fun _ => ⟨g, cp, rfl⟩, HB.out⟩
        case measure => simp [intOf]; omega
      · obtain rfl : p = k := by omega
        obtain ⟨g, cp, rfl⟩ := hform (by omega)
        have HO := aside hown
        have HB := aside hnx
        clear hown hnx hown0 hb0
        go_wp2
        exact bodyPost_ret (v := .tuple #[.slice (some ⟨g, 0, none⟩) p cp, .int .i64 0]) (by simp [results, Tryd.results76, go_sem]) rfl ⟨g, cp, rfl, HO.out, (HO.out.lt g rfl).2, HB.out⟩
end Go.Proofs.YtfkdhambbpkmpaaDoor
namespace Go.Proofs.YtfkdhambbpkmpaaDoor
open Go.RowKit
set_option linter.unusedVariables false
/-- The border behind part j. -/
def bdr (n p : Nat) (S : Nat → ByteArray) (j : Nat) : ByteArray := S (stt n p (j + 1))
theorem strUpto_succ (f : Nat → ByteArray) (k : Nat) : strCells (strUpto f (k + 1)) = strCells (strUpto f k) ++ [.string (f k)] := by
  unfold strCells strUpto
  rw [List.range_succ, List.map_append, List.map_append]
  rfl
/-- Texts that a call owns, to those who read them. -/
theorem strs_own {w : World} {B g n cap : Nat} {f : Nat → ByteArray} (h : w.ownsRow B 9 1 (.slice (some ⟨g, 0, none⟩) n cap) n (strCells (strUpto f n))) (hb : n * 16 ≤ 281474976710656) : StrsIn w.heap.size w (some ⟨g, 0, none⟩) n cap f := by
  have hcap : n ≤ cap ∧ g < w.heap.size := by
    rcases h.2 with ⟨h1, -⟩ | ⟨g', cap', cur, h1, -, h3, h2, -⟩
    · cases h1
    · cases h1; exact ⟨h2, lies h3⟩
  refine ⟨hcap.1, hb, .inr ⟨g, 0, rfl, hcap.2, fun i hi => ?_⟩⟩
  have c := h.cells (g := g) rfl i (.string (f i)) (by unfold strCells strUpto; rw [List.getElem?_map, List.getElem?_map, List.getElem?_range hi]; rfl)
  have e : (⟨g, 0, none⟩ : Addr).add i = ⟨g, 0 + i, none⟩ := by unfold Addr.add; split <;> simp_all
  rwa [e] at c
set_option maxHeartbeats 6400000 in
set_option maxRecDepth 100000 in
theorem bordersOf_any (a : Option Addr) (n cap q : Nat) (S : Nat → ByteArray) (w : World) (h : StrsIn w.heap.size w a n cap S) (hqn : q + 1 ≤ n) (hn : n ≤ 256) :
    Calls Tryd.prog 71 #[.slice a n cap, .int .i64 ((q : Int) + 1)] w fun e w' => ∃ g cp, e = .returned (.tuple #[.slice (some ⟨g, 0, none⟩) q cp, .int .i64 0]) ∧ w'.ownsRow w.heap.size 9 1 (.slice (some ⟨g, 0, none⟩) q cp) q (strCells (strUpto (bdr n (q + 1) S) q)) ∧ g < w'.heap.size ∧ Below w.heap.size w w' := by
  obtain ⟨i0, hi0, hz0, hz1, hz2⟩ := infoStr_parts
  have hlc := h.1
  have HH := aside h.2.2
  clear h
  go_enter Tryd.func71, Tryd.ntmps71
  go_wp2_with fail
  refine (starts_any n (q + 1) _ (by omega) hqn hn).mono ?_
  rintro e w1 ⟨g1, c1, rfl, o1, l1, b1⟩
  have O1 := aside o1
  have B1 := aside b1
  have HB1 := aside b1.size
  have L1 := aside l1
  have hpw : IntKind.i64.wrap (q : Int) = (q : Int) := by rw [IntKind.wrap_i64]; omega
  have hpc : q + 1 ≤ c1 := by
    rcases o1.2 with ⟨h1, -⟩ | ⟨g', cap', cur, h1, -, -, h2, -⟩
    · cases h1
    · cases h1; exact h2
  have h0p : (0 : Int) ≤ (q : Int) := by omega
  clear o1 b1 l1
  go_wp2_with (at_make; refine wpList_make_own _ rfl _ _ 33 rfl w1.heap.size 9 i0 (.string ⟨#[]⟩) 1 Tryd.underlying33 hi0 hz0 hz1 _ _ _ q rfl rfl ?b1 ?b2 ?b3 (by simp) ?_)
  case b1 => omega
  case b2 => first | omega | (rw [hz2]; omega)
  case b3 => unfold maxLen; omega
  intro w2 hown0 hgrow0
  have hb2 : Below w1.heap.size w1 w2 := (Below.refl _ w1).grown hgrow0 (Nat.le_refl _) (fun k e => by cases e)
  have HO0 := aside hown0
  have HB2 := aside hb2
  clear hown0 hgrow0 hb2
  by_cases hc1 : c1 = 1
  · obtain rfl : q = 0 := by omega
    subst hc1
    go_wp2
    go_loopw [8, 27] (fun v i wr => ∃ g cp, v = .slice (some ⟨g, 0, none⟩) 0 cp ∧ i = .int .i64 0 ∧ wr.ownsRow w1.heap.size 9 1 (.slice (some ⟨g, 0, none⟩) 0 cp) 0 [] ∧ Below w1.heap.size w1 wr) (fun _ _ _ => 0)
    case atStart => exact ⟨_, _, rfl, rfl, HO0.out, HB2.out⟩
    case round =>
      obtain ⟨g, cp, rfl, rfl, hown, hnx⟩ := hrel
      have HO := aside hown
      have HX := aside hnx
      clear hown hnx
      go_wp2
      exact bodyPost_ret (v := .tuple #[.slice (some ⟨g, 0, none⟩) 0 cp, .int .i64 0]) (by simp [results, Tryd.results71, go_sem]) rfl ⟨g, cp, rfl, row_base HO.out HB1.out, (HO.out.lt g rfl).2, B1.out.trans (HX.out.mono HB1.out)⟩
  · have hp1 : (1 : Int) ≤ (q : Int) + 1 := by omega
    go_wp2
    go_loopw [8, 27] (fun v i wr => ∃ g k cp, k ≤ q ∧ v = .slice (some ⟨g, 0, none⟩) k cp ∧ i = .int .i64 ((k : Nat) : Int) ∧ wr.ownsRow w1.heap.size 9 1 (.slice (some ⟨g, 0, none⟩) k cp) k (strCells (strUpto (bdr n (q + 1) S) k)) ∧ Below w1.heap.size w1 wr) (fun _ i _ => q - (intOf i).toNat)
    case atStart => exact ⟨_, 0, _, Nat.zero_le _, rfl, rfl, HO0.out, HB2.out⟩
    case round =>
      obtain ⟨g, k, cp, hk, rfl, rfl, hown, hnx⟩ := hrel
      have HX := aside hnx
      by_cases hlt : (k : Int) < (q : Int)
      · have hx := stt_lt (n := n) (p := q + 1) (j := k + 1) (by omega) (by omega) (by omega)
        have d0 : wr.cell? ⟨g1, 1 + k, none⟩ = some (.int .i64 (stt n (q + 1) (k + 1) : Int)) := by
          have := (hnx.cell (p := ⟨g1, k + 1, none⟩) L1.out).trans (stt_at O1.out (j := k + 1) (by omega))
          first | exact this | (rw [Nat.add_comm 1 k]; exact this)
        have HS := aside (strUpto_succ (bdr n (q + 1) S) k)
        have hbd : bdr n (q + 1) S k = S (stt n (q + 1) (k + 1)) := rfl
        rcases HH.out with h0 | ⟨b, off, rfl, hb, hc⟩
        · omega
        have c0 := (HX.out.cell (p := ⟨b, off + stt n (q + 1) (k + 1), none⟩) (Nat.lt_of_lt_of_le hb HB1.out)).trans ((B1.out.cell (p := ⟨b, off + stt n (q + 1) (k + 1), none⟩) hb).trans (hc _ hx))
        rw [← hbd] at c0
        generalize bdr n (q + 1) S k = y at *
        generalize stt n (q + 1) (k + 1) = x at *
        have hx0 : (0 : Int) ≤ (x : Int) := by omega
        have hx1 : (x : Int) < (n : Int) := by omega
        have hk0 : (0 : Int) ≤ (k : Int) := by omega
        have hk1 : (0 : Int) ≤ (k : Int) + 1 := by omega
        have hqw : IntKind.i64.wrap ((k : Int) + 1) = (k : Int) + 1 := by rw [IntKind.wrap_i64]; omega
        have hqw2 : IntKind.i64.wrap ((k : Int) + 1 + 1) = (k : Int) + 1 + 1 := by rw [IntKind.wrap_i64]; omega
        skip
        have HNS := aside hnx.size
        clear hc hbd hnx
        go_wp2_with (at_builtin; refine wpList_append_lies _ rfl _ _ _ rfl w1.heap.size 9 i0 (.string ⟨#[]⟩) 1 16 Tryd.underlying33 hi0 hz0 hz1 hz2 rfl (by decide) _ _ _ (by rfl) (hown.alloc _) ⟨wr.heap.size, 0, none⟩ 1 1 [.string y] (by rfl) (by rfl) (World.news_of_block (cs := #[.string y]) (t := 9) (fr := (0, 0)) (heap_alloc_new wr _)) (by simp [Value.oneCell']) (by omega) (by unfold maxLen; omega) (by omega) (by have := HNS.out; simp; omega) (wr.heap.size + 1) (by simp) ?_; intro g5 cp5 w5 hown1 hgrow hat hlt1; refine Hid.out ?_)
        refine aside ?_
        have HO := aside (show w5.ownsRow w1.heap.size 9 1 (.slice (some ⟨g5, 0, none⟩) (k + 1) cp5) (k + 1) (strCells (strUpto (bdr n (q + 1) S) (k + 1))) from by rw [HS.out]; exact hown1)
        have HY := aside (show Below w1.heap.size w1 w5 from (HX.out.alloc HX.out.size _).grown hgrow (by have := HX.out.size; simp; omega) (fun j hj => (hown.lt j hj).1))
        clear hown hown1 hgrow hat hlt1 c0 d0
        go_wp2
        go_roundw
        case rel => exact ⟨g5, k + 1, cp5, by omega, by rfl, by go_num, HO.out, HY.out⟩
        case measure => simp [intOf]; omega
      · obtain rfl : q = k := by omega
        have HO := aside hown
        clear hown hnx
        go_wp2
        exact bodyPost_ret (v := .tuple #[.slice (some ⟨g, 0, none⟩) q cp, .int .i64 0]) (by simp [results, Tryd.results71, go_sem]) rfl ⟨g, cp, rfl, row_base HO.out HB1.out, (HO.out.lt g rfl).2, B1.out.trans (HX.out.mono HB1.out)⟩
set_option maxHeartbeats 6400000 in
set_option maxRecDepth 100000 in
theorem rborders_ok (a : Option Addr) (n cap q : Nat) (S : Nat → ByteArray) (w : World) (h : StrsIn w.heap.size w a n cap S) (hc : keyE S n = 0) (hqn : q + 1 ≤ n) (hn : n ≤ 256) :
    Calls Tryd.prog 63 #[.slice a n cap, .int .i64 ((q : Int) + 1)] w fun e w' => ∃ g cp, e = .returned (.tuple #[.slice (some ⟨g, 0, none⟩) q cp, .int .i64 0]) ∧ w'.ownsRow w.heap.size 9 1 (.slice (some ⟨g, 0, none⟩) q cp) q (strCells (strUpto (bdr n (q + 1) S) q)) ∧ g < w'.heap.size ∧ Below w.heap.size w w' := by
  obtain ⟨i0, hi0, hz0, hz1, hz2⟩ := infoStr_parts
  have H := aside (rrise_any a n cap S w h)
  have hlc := h.1
  have HH := aside h.2.2
  rw [hc] at H
  clear h hc
  go_enter Tryd.func63, Tryd.ntmps63
  go_wp2_with fail
  refine H.out.mono ?_
  rintro e w0 ⟨rfl, b0⟩
  have B0 := aside b0
  clear b0
  go_wp2_with fail
  refine (rstarts_any n (q + 1) _ (by omega) hqn hn).mono ?_
  rintro e w1 ⟨g1, c1, rfl, o1, l1, b1⟩
  have O1 := aside o1
  have B1 := aside (bthen B0.out b1)
  have HB1 := aside B1.out.size
  have L1 := aside l1
  have hpc : q + 1 ≤ c1 := by
    rcases o1.2 with ⟨h1, -⟩ | ⟨g', cap', cur, h1, -, -, h2, -⟩
    · cases h1
    · cases h1; exact h2
  have HO0 : Hid ((w1.alloc (.cells #[] 9)).ownsRow w1.heap.size 9 1 (.slice (some ⟨w1.heap.size, 0, none⟩) 0 0) 0 []) := aside (World.ownsRow_made w1 #[] 0 (Nat.le_refl _) (Nat.zero_le _) rfl)
  have HB2 := aside (bnew w1 (.cells #[] 9))
  clear o1 b1 l1
  go_wp2
  go_loopw [9, 10] (fun v i wr => ∃ g k cp, k ≤ q ∧ v = .slice (some ⟨g, 0, none⟩) k cp ∧ i = .int .i64 ((k : Int) + 1) ∧ wr.ownsRow w1.heap.size 9 1 (.slice (some ⟨g, 0, none⟩) k cp) k (strCells (strUpto (bdr n (q + 1) S) k)) ∧ Below w1.heap.size w1 wr) (fun _ i _ => q + 1 - (intOf i).toNat)
  case atStart => exact ⟨_, 0, _, Nat.zero_le _, rfl, rfl, HO0.out, HB2.out⟩
  case round =>
    obtain ⟨g, k, cp, hk, rfl, rfl, hown, hnx⟩ := hrel
    have HX := aside hnx
    by_cases hlt : (k : Int) + 1 < (q : Int) + 1
    · have hx := stt_lt (n := n) (p := q + 1) (j := k + 1) (by omega) (by omega) (by omega)
      have d0 : wr.cell? ⟨g1, k + 1, none⟩ = some (.int .i64 (stt n (q + 1) (k + 1) : Int)) := by
        have := (hnx.cell (p := ⟨g1, k + 1, none⟩) L1.out).trans (stt_at O1.out (j := k + 1) (by omega))
        first | exact this | (rw [Nat.add_comm 1 k]; exact this)
      have HS := aside (strUpto_succ (bdr n (q + 1) S) k)
      have hbd : bdr n (q + 1) S k = S (stt n (q + 1) (k + 1)) := rfl
      rcases HH.out with h0 | ⟨b, off, rfl, hb, hc⟩
      · omega
      have c0 := (HX.out.cell (p := ⟨b, off + stt n (q + 1) (k + 1), none⟩) (Nat.lt_of_lt_of_le hb HB1.out)).trans ((B1.out.cell (p := ⟨b, off + stt n (q + 1) (k + 1), none⟩) hb).trans (hc _ hx))
      rw [← hbd] at c0
      generalize bdr n (q + 1) S k = y at *
      generalize stt n (q + 1) (k + 1) = x at *
      have hx0 : (0 : Int) ≤ (x : Int) := by omega
      have hx1 : (x : Int) < (n : Int) := by omega
      have hk0 : (0 : Int) ≤ (k : Int) := by omega
      have hk1 : (0 : Int) ≤ (k : Int) + 1 := by omega
      have hqw : IntKind.i64.wrap ((k : Int) + 1) = (k : Int) + 1 := by rw [IntKind.wrap_i64]; omega
      have hqw2 : IntKind.i64.wrap ((k : Int) + 1 + 1) = (k : Int) + 1 + 1 := by rw [IntKind.wrap_i64]; omega
      have hlt2 : (k : Int) < (q : Int) := by omega
      have HNS := aside hnx.size
      clear hc hbd hnx
      go_wp2_with (at_builtin; refine wpList_append_lies _ rfl _ _ _ rfl w1.heap.size 9 i0 (.string ⟨#[]⟩) 1 16 Tryd.underlying33 hi0 hz0 hz1 hz2 rfl (by decide) _ _ _ (by rfl) (hown.alloc _) ⟨wr.heap.size, 0, none⟩ 1 1 [.string y] (by rfl) (by rfl) (World.news_of_block (cs := #[.string y]) (t := 9) (fr := (0, 0)) (heap_alloc_new wr _)) (by simp [Value.oneCell']) (by omega) (by unfold maxLen; omega) (by omega) (by have := HNS.out; simp; omega) (wr.heap.size + 1) (by simp) ?_; intro g5 cp5 w5 hown1 hgrow hat hlt1; refine Hid.out ?_)
      refine aside ?_
      have HO := aside (show w5.ownsRow w1.heap.size 9 1 (.slice (some ⟨g5, 0, none⟩) (k + 1) cp5) (k + 1) (strCells (strUpto (bdr n (q + 1) S) (k + 1))) from by rw [HS.out]; exact hown1)
      have HY := aside (show Below w1.heap.size w1 w5 from (HX.out.alloc HX.out.size _).grown hgrow (by have := HX.out.size; simp; omega) (fun j hj => (hown.lt j hj).1))
      clear hown hown1 hgrow hat hlt1 c0 d0
      go_wp2
      go_roundw
      case rel => exact ⟨g5, k + 1, cp5, by omega, by rfl, by go_num, HO.out, HY.out⟩
      case measure => simp [intOf]; omega
    · obtain rfl : q = k := by omega
      have HO := aside hown
      clear hown hnx
      go_wp2
      exact bodyPost_ret (v := .tuple #[.slice (some ⟨g, 0, none⟩) q cp, .int .i64 0]) (by simp [results, Tryd.results63, go_sem]) rfl ⟨g, cp, rfl, row_base HO.out HB1.out, (HO.out.lt g rfl).2, B1.out.trans (HX.out.mono HB1.out)⟩
end Go.Proofs.YtfkdhambbpkmpaaDoor
namespace Go.Proofs.YtfkdhambbpkmpaaDoor
open Go.RowKit
set_option linter.unusedVariables false
/-- All keys are in the range. -/
def allK (r : Rg) (S : Nat → ByteArray) (n : Nat) : Bool := (List.range n).all fun i => r.has (S i)
theorem allK_true {r : Rg} {S : Nat → ByteArray} {n : Nat} (h : ∀ i, i < n → r.has (S i) = true) : allK r S n = true := by
  unfold allK
  rw [List.all_eq_true]
  exact fun i hi => h i (List.mem_range.1 hi)
theorem allK_false {r : Rg} {S : Nat → ByteArray} {n i : Nat} (hi : i < n) (h : r.has (S i) = false) : allK r S n = false := by
  unfold allK
  rw [List.all_eq_false]
  exact ⟨i, List.mem_range.2 hi, by simp [h]⟩
theorem allK_at {r : Rg} {S : Nat → ByteArray} {n : Nat} (h : allK r S n = true) {i : Nat} (hi : i < n) : r.has (S i) = true := by
  unfold allK at h
  rw [List.all_eq_true] at h
  exact h i (List.mem_range.2 hi)
/-- Keys that may be: none too long, and they rise. -/
structure KeysUp (S : Nat → ByteArray) (n : Nat) : Prop where
  sz : ∀ i, i < n → ((S i).size : Int) ≤ 16
  up : ∀ i j, i < j → j < n → Op.bytesLess (S i).toList (S j).toList = true
theorem keysOk {S : Nat → ByteArray} {n : Nat} (h : keyE S n = 0) : KeysUp S n := by
  unfold keyE at h
  cases h1 : longK S n
  · rw [h1] at h
    cases h2 : riseK S n
    · rw [h2] at h; cases h
    · unfold longK at h1
      unfold riseK at h2
      rw [List.any_eq_false] at h1
      rw [List.all_eq_true] at h2
      have st : ∀ i, i + 1 < n → Op.bytesLess (S i).toList (S (i + 1)).toList = true := fun i hi => h2 i (List.mem_range.2 (by omega))
      refine ⟨fun i hi => by have := h1 i (List.mem_range.2 hi); simp at this; omega, ?_⟩
      intro i j hij hj
      obtain ⟨d, rfl⟩ : ∃ d, j = i + d + 1 := ⟨j - i - 1, by omega⟩
      induction d with
      | zero => exact st i hj
      | succ d ih => exact L_trans _ _ _ (ih (by omega) (by omega)) (st (i + d + 1) hj)
  · rw [h1] at h; cases h
theorem keyE_zero {S : Nat → ByteArray} {n : Nat} (h : KeysUp S n) : keyE S n = 0 := by
  unfold keyE
  rw [longK_false h.sz, riseK_true (fun k hk => h.up k (k + 1) (Nat.lt_succ_self k) hk)]
  rfl
theorem L_asym {x y : List UInt8} (h : Op.bytesLess x y = true) : Op.bytesLess y x = false := by
  cases h2 : Op.bytesLess y x
  · rfl
  · have := L_trans x y x h h2
    rw [L_irrefl] at this; cases this
/-- Not above the one and below the other. -/
theorem L_le_lt {x y z : List UInt8} (h : Op.bytesLess y x = false) (h2 : Op.bytesLess y z = true) : Op.bytesLess x z = true := by
  cases h3 : Op.bytesLess x y
  · rw [L_total x y h3 h]; exact h2
  · exact L_trans x y z h3 h2
theorem KeysUp.lt {S : Nat → ByteArray} {n : Nat} (h : KeysUp S n) {i j : Nat} (hi : i < n) (hj : j < n) : Op.bytesLess (S i).toList (S j).toList = decide (i < j) := by
  rcases Nat.lt_trichotomy i j with e | e | e
  · rw [h.up i j e hj, decide_eq_true e]
  · subst e; rw [L_irrefl, decide_eq_false (Nat.lt_irrefl i)]
  · rw [L_asym (h.up j i e hi), decide_eq_false (by omega)]
theorem has_parts {r : Rg} {k : ByteArray} (h : r.has k = true) : r.may = true ∧ (k.size : Int) ≤ 16 ∧ Op.bytesLess k.toList r.lo.toList = false ∧ (r.op || Op.bytesLess k.toList r.hi.toList) = true := by
  simp only [Rg.has, Bool.and_eq_true, decide_eq_true_eq, Bool.not_eq_true'] at h
  exact ⟨h.1.1.1, h.1.1.2, h.1.2, h.2⟩
theorem stt_up {n p : Nat} (hp : 0 < p) (hpn : p ≤ n) {i j : Nat} (h : i < j) : stt n p i < stt n p j := by
  obtain ⟨d, rfl⟩ : ∃ d, j = i + d + 1 := ⟨j - i - 1, by omega⟩
  have h1 := div_pos' hp hpn
  induction d with
  | zero => have := (stt_step n hp i).1; show stt n p i < stt n p (i + 1); omega
  | succ d ih => have := (stt_step n hp (i + d + 1)).1; have := ih (by omega); show stt n p i < stt n p (i + d + 1 + 1); omega
/-- The borders of a split may stand in the range. -/
theorem bdr_ok {r : Rg} {S : Nat → ByteArray} {n q : Nat} (hk : KeysUp S n) (ha : ∀ i, i < n → r.has (S i) = true) (hq : q + 1 ≤ n) : ∀ i, i < q → okB r (cutLo r.lo (bdr n (q + 1) S) i) (bdr n (q + 1) S i) = true := by
  intro i hi
  have hx : stt n (q + 1) (i + 1) < n := stt_lt (by omega) (by omega) (by omega)
  have h0 := has_parts (ha _ hx)
  have hl : Op.bytesLess (cutLo r.lo (bdr n (q + 1) S) i).toList (S (stt n (q + 1) (i + 1))).toList = true := by
    cases i with
    | zero =>
      show Op.bytesLess r.lo.toList _ = true
      have h1 := has_parts (ha 0 (by omega))
      have h2 := stt_up (n := n) (p := q + 1) (by omega) hq (i := 0) (j := 1) (by omega)
      rw [stt_zero] at h2
      exact L_le_lt h1.2.2.1 (hk.up 0 _ h2 hx)
    | succ i =>
      show Op.bytesLess (S (stt n (q + 1) (i + 1))).toList _ = true
      exact hk.up _ _ (stt_up (by omega) hq (by omega)) hx
  show okB r _ (S (stt n (q + 1) (i + 1))) = true
  unfold okB
  rw [hl, h0.2.2.2, decide_eq_true h0.2.1]
  rfl
theorem pieces_rise {r : Rg} {S : Nat → ByteArray} {n q : Nat} (hk : KeysUp S n) (ha : ∀ i, i < n → r.has (S i) = true) (hq : q + 1 ≤ n) (h0 : 0 < q) : rises (piece r (bdr n (q + 1) S) q) (q + 1) = true :=
  (rises_cut (has_parts (ha 0 (by omega))).1 h0).2 (bdr_ok hk ha hq)
theorem pieces_up {r : Rg} {S : Nat → ByteArray} {n q : Nat} (hk : KeysUp S n) (ha : ∀ i, i < n → r.has (S i) = true) (hq : q + 1 ≤ n) : rises (piece r (bdr n (q + 1) S) q) (q + 1) = true := by
  rcases Nat.eq_zero_or_pos q with h0 | h0
  · subst h0
    exact rises_one (has_not_emp (ha 0 (by omega)))
  · exact pieces_rise hk ha hq h0
theorem rises_may {T : Nat → Rg} {n j : Nat} (h : rises T n = true) (hj : j < n) : (T j).may = true := by
  simp only [rises, Bool.and_eq_true, Bool.not_eq_true'] at h
  cases he : (T j).may
  · rw [anyE_true (j := j) hj (emp_of_not_may he)] at h; cases h.1
  · rfl
/-- Which keys a part has. -/
theorem piece_has {r : Rg} {S : Nat → ByteArray} {n q : Nat} (hk : KeysUp S n) (ha : ∀ i, i < n → r.has (S i) = true) (hq : q + 1 ≤ n) {i j : Nat} (hi : i < n) (hj : j < q + 1) :
    (piece r (bdr n (q + 1) S) q j).has (S i) = (decide (stt n (q + 1) j ≤ i) && decide (i < stt n (q + 1) (j + 1))) := by
  have hm := rises_may (pieces_up hk ha hq) hj
  have h0 := has_parts (ha i hi)
  have hlo : (!Op.bytesLess (S i).toList (piece r (bdr n (q + 1) S) q j).lo.toList) = decide (stt n (q + 1) j ≤ i) := by
    have e : (piece r (bdr n (q + 1) S) q j).lo = cutLo r.lo (bdr n (q + 1) S) j := by unfold piece; split <;> rfl
    rw [e]
    cases j with
    | zero => show (!Op.bytesLess (S i).toList r.lo.toList) = _; rw [h0.2.2.1, stt_zero, decide_eq_true (Nat.zero_le i)]; rfl
    | succ j =>
      show (!Op.bytesLess (S i).toList (S (stt n (q + 1) (j + 1))).toList) = _
      rw [hk.lt hi (stt_lt (by omega) (by omega) (by omega))]
      by_cases e : i < stt n (q + 1) (j + 1)
      · rw [decide_eq_true e, decide_eq_false (by omega)]; rfl
      · rw [decide_eq_false e, decide_eq_true (by omega)]; rfl
  have hhi : ((piece r (bdr n (q + 1) S) q j).op || Op.bytesLess (S i).toList (piece r (bdr n (q + 1) S) q j).hi.toList) = decide (i < stt n (q + 1) (j + 1)) := by
    by_cases e : j < q
    · have e1 : piece r (bdr n (q + 1) S) q j = ⟨cutLo r.lo (bdr n (q + 1) S) j, bdr n (q + 1) S j, false⟩ := by unfold piece; rw [if_pos e]
      rw [e1]
      show (false || Op.bytesLess (S i).toList (S (stt n (q + 1) (j + 1))).toList) = _
      rw [Bool.false_or, hk.lt hi (stt_lt (by omega) (by omega) (by omega))]
    · have ej : j = q := by omega
      subst ej
      have e1 : piece r (bdr n (j + 1) S) j j = ⟨cutLo r.lo (bdr n (j + 1) S) j, r.hi, r.op⟩ := by unfold piece; rw [if_neg e]
      rw [e1]
      show (r.op || Op.bytesLess (S i).toList r.hi.toList) = _
      rw [h0.2.2.2, stt_end n (p := j + 1) (by omega), decide_eq_true hi]
  unfold Rg.has
  rw [hm, decide_eq_true h0.2.1, hlo, hhi]
  rfl
end Go.Proofs.YtfkdhambbpkmpaaDoor
namespace Go.Proofs.YtfkdhambbpkmpaaDoor
open Go.RowKit
set_option linter.unusedVariables false
theorem box_after {w X : World} {lo hi : ByteArray} {op : Bool} (b : Below (w.alloc (.cells #[.string lo, .string hi, .bool op] 26)).heap.size (w.alloc (.cells #[.string lo, .string hi, .bool op] 26)) X) :
    X.heap[w.heap.size]? = some (.cells #[.string lo, .string hi, .bool op] 26 (0, 0)) ∧ Below w.heap.size w X :=
  ⟨keep (heap_alloc_new w _) b, bthen (bnew w _) b⟩
set_option maxRecDepth 100000 in
set_option maxHeartbeats 3200000 in
theorem allHeld_any (lo hi : ByteArray) (op : Bool) (a : Option Addr) (n cap : Nat) (S : Nat → ByteArray) (w : World) (h : StrsIn w.heap.size w a n cap S) :
    Calls Tryd.prog 70 #[.agg #[.string lo, .string hi, .bool op], .slice a n cap] w fun e w' => e = .returned (.bool (allK ⟨lo, hi, op⟩ S n)) ∧ Below w.heap.size w w' := by
  have hlc := h.1
  have hl16 := h.2.1
  have HH := aside h.2.2
  clear h
  go_enter Tryd.func70, Tryd.ntmps70
  go_wp2
  go_loopw [9] (fun i wr => ∃ k : Nat, k ≤ n ∧ i = .int .i64 (k : Int) ∧ Hid (∀ j, j < k → Rg.has ⟨lo, hi, op⟩ (S j) = true) ∧ Hid (Below (w.alloc (.cells #[.string lo, .string hi, .bool op] 26)).heap.size (w.alloc (.cells #[.string lo, .string hi, .bool op] 26)) wr)) (fun i _ => n - (intOf i).toNat)
  case atStart => exact ⟨0, Nat.zero_le _, rfl, fun j hj => by omega, Below.refl _ _⟩
  case round =>
    obtain ⟨k, hk, rfl, hall, HB⟩ := hrel
    obtain ⟨hbx, hnx⟩ := box_after HB.out
    have HX := aside hnx
    obtain ⟨⟨q0, q1, q2⟩, -⟩ := box_out hbx
    by_cases hlt : (k : Int) < (n : Int)
    · rcases HH.out with hh | ⟨b, off, rfl, hb, hc⟩
      · omega
      have c0 := (hnx.cell (p := ⟨b, off + k, none⟩) hb).trans (hc k (by omega))
      have hk0 : (0 : Int) ≤ (k : Int) := by omega
      have hqw : IntKind.i64.wrap ((k : Int) + 1) = (k : Int) + 1 := by rw [IntKind.wrap_i64]; omega
      clear hc hnx hbx
      obtain ⟨x, hx⟩ : ∃ x, Rg.has ⟨lo, hi, op⟩ (S k) = x := ⟨_, rfl⟩
      have HC := aside (fun w => holds_any lo hi op (S k) w)
      rw [hx] at HC
      go_wp2_with fail
      refine (HC.out _).mono ?_
      rintro e w1 ⟨rfl, b1⟩
      have B1 := aside (HB.out.trans (b1.mono HB.out.size))
      clear b1 HC
      cases x
      · have HF := aside (allK_false (r := ⟨lo, hi, op⟩) (S := S) (n := n) (by omega) hx)
        clear q0 q1 q2 c0
        go_wp2
        go_ret
        exact ⟨by rw [HF.out]; rfl, (box_after B1.out).2⟩
      · have HA := aside (show ∀ j, j < k + 1 → Rg.has ⟨lo, hi, op⟩ (S j) = true from fun j hj => by
          by_cases e : j = k
          · rw [e]; exact hx
          · exact hall.out j (by omega))
        clear q0 q1 q2 c0
        go_wp2
        go_roundw
        case rel => exact ⟨k + 1, by omega, by go_num, HA, B1⟩
        case measure => simp [intOf]; omega
    · obtain rfl : n = k := by omega
      have HT := aside (allK_true hall.out)
      clear hnx hbx q0 q1 q2
      go_wp2
      go_ret
      exact ⟨by rw [HT.out]; rfl, HX.out⟩
set_option maxHeartbeats 3200000 in
set_option maxRecDepth 100000 in
theorem ranges_ok (lo hi : ByteArray) (op : Bool) (a : Option Addr) (n cap : Nat) (S : Nat → ByteArray) (q : Nat) (w : World) (h : StrsIn w.heap.size w a n cap S) (hch : Rg.chk ⟨lo, hi, op⟩ = 0) (hke : keyE S n = 0) (hal : allK ⟨lo, hi, op⟩ S n = true) (hqn : q + 1 ≤ n) (hn : n ≤ 256) :
    Calls Tryd.prog 54 #[.agg #[.string lo, .string hi, .bool op], .slice a n cap, .int .i64 ((q : Int) + 1)] w fun e w' => ∃ g cp, e = .returned (.tuple #[.slice (some ⟨g, 0, none⟩) (q + 1) cp, .int .i64 0]) ∧ w'.ownsRow w.heap.size 26 3 (.slice (some ⟨g, 0, none⟩) (q + 1) cp) (q + 1) (rgCells (piece ⟨lo, hi, op⟩ (bdr n (q + 1) S) q) (q + 1)) ∧ g < w'.heap.size ∧ Below w.heap.size w w' := by
  have HS := aside h
  clear h
  have HM := aside (show Rg.may ⟨lo, hi, op⟩ = true from by unfold Rg.may; rw [hch]; rfl)
  have HR := aside (fun h0 : 0 < q => pieces_rise (r := ⟨lo, hi, op⟩) (keysOk hke) (fun i hi => allK_at hal hi) hqn h0)
  have HC := aside (rgCells_congr (f := piece ⟨lo, hi, op⟩ (bdr n (0 + 1) S) 0) (g := fun _ => ⟨lo, hi, op⟩) (n := 1) (fun i hi' => by have e : i = 0 := (by omega); rw [e]; rfl))
  go_enter Tryd.func54, Tryd.ntmps54
  go_wp2_with fail
  refine (check_at hch _).mono ?_
  rintro e w1 ⟨rfl, b1⟩
  have X1 := aside b1
  clear b1
  obtain ⟨hbx, hnx⟩ := box_after X1.out
  obtain ⟨⟨q0, q1, q2⟩, -⟩ := box_out hbx
  have B1 := aside hnx
  clear hbx hnx
  go_wp2_with fail
  refine (checkKeys_any a n cap S _ (HS.out.up B1.out B1.out.size)).mono ?_
  rw [hke]
  rintro e w2 ⟨rfl, b2⟩
  have X2 := aside (X1.out.trans (b2.mono X1.out.size))
  clear b2 q0 q1 q2
  obtain ⟨hbx, hnx⟩ := box_after X2.out
  obtain ⟨⟨q0, q1, q2⟩, -⟩ := box_out hbx
  have B2 := aside hnx
  clear hbx hnx
  go_wp2_with fail
  refine (allHeld_any lo hi op a n cap S _ (HS.out.up B2.out B2.out.size)).mono ?_
  rw [hal]
  rintro e w3 ⟨rfl, b3⟩
  have X3 := aside (X2.out.trans (b3.mono X2.out.size))
  clear b3 q0 q1 q2
  obtain ⟨hbx, hnx⟩ := box_after X3.out
  obtain ⟨⟨q0, q1, q2⟩, -⟩ := box_out hbx
  have B3 := aside hnx
  clear hbx hnx
  go_wp2_with fail
  refine (bordersOf_any a n cap q S _ (HS.out.up B3.out B3.out.size) hqn hn).mono ?_
  rintro e w4 ⟨g4, c4, rfl, o4, l4, b4⟩
  have O4 := aside o4
  have X4 := aside (X3.out.trans (b4.mono X3.out.size))
  clear b4 o4 l4 q0 q1 q2
  obtain ⟨hbx, hnx⟩ := box_after X4.out
  obtain ⟨⟨q0, q1, q2⟩, -⟩ := box_out hbx
  have B4 := aside hnx
  clear hbx hnx
  rcases Nat.eq_zero_or_pos q with h0 | h0
  · subst h0
    go_wp2_with fail
    refine (split_none lo hi op (some ⟨g4, 0, none⟩) c4 _ HM.out).mono ?_
    rintro e w5 ⟨g, cp, rfl, o5, l5, b5⟩
    have O5 := aside o5
    have B5 := aside (bthen B4.out b5)
    clear o5 b5 q0 q1 q2
    go_wp2
    exact bodyPost_ret (v := .tuple #[.slice (some ⟨g, 0, none⟩) 1 cp, .int .i64 0]) (by simp [results, Tryd.results54, go_sem]) rfl ⟨g, cp, rfl, by rw [HC.out]; exact row_base O5.out B4.out.size, l5, B5.out⟩
  · go_wp2_with fail
    refine (split_yes lo hi op (some ⟨g4, 0, none⟩) q c4 (bdr n (q + 1) S) _ HM.out (strs_own O4.out (by omega)) (by omega) h0 (HR.out h0)).mono ?_
    rintro e w5 ⟨g, cp, rfl, o5, l5, b5⟩
    have O5 := aside o5
    have B5 := aside (bthen B4.out b5)
    clear o5 b5 q0 q1 q2
    go_wp2
    exact bodyPost_ret (v := .tuple #[.slice (some ⟨g, 0, none⟩) (q + 1) cp, .int .i64 0]) (by simp [results, Tryd.results54, go_sem]) rfl ⟨g, cp, rfl, row_base O5.out B4.out.size, l5, B5.out⟩
end Go.Proofs.YtfkdhambbpkmpaaDoor

/-
  Starts of the code and of the document: where parts begin.
-/
import Derived.Test.YtagcenfjdjaaaaaCuPlain
import Derived.Laws.AppendOwn
namespace Go.Proofs.Ytagcenfjdjaaaaa
open Go.RowKit
set_option linter.unusedVariables false

theorem infoInt : (Try.prog.info? 3).map (fun i => (i.zero, i.size, i.bytes)) = some (some (.int .i64 0), 1, 8) := by kernel_rfl

/-- Where the first k of p parts of n things begin. -/
def sttCells (n p k : Nat) : List Value := (List.range k).map fun j => .int .i64 (stt n p j : Int)

theorem sttCells_succ (n p k : Nat) : sttCells n p (k + 1) = sttCells n p k ++ [.int .i64 (stt n p k : Int)] := by
  unfold sttCells; rw [List.range_succ, List.map_append]; rfl

/-- A row of beginnings, to those who read it. -/
theorem stt_at {w : World} {B g p cap n : Nat} (h : w.ownsRow B 3 1 (.slice (some ⟨g, 0, none⟩) p cap) p (sttCells n p p)) {j : Nat} (hj : j < p) : w.cell? ⟨g, j, none⟩ = some (.int .i64 (stt n p j : Int)) := by
  have c := h.cells (g := g) rfl j (.int .i64 (stt n p j : Int)) (by unfold sttCells; rw [List.getElem?_map, List.getElem?_range hj]; rfl)
  have e : (⟨g, 0, none⟩ : Addr).add j = ⟨g, 0 + j, none⟩ := by unfold Addr.add; split <;> simp_all
  rw [e, Nat.zero_add] at c
  exact c

theorem quo_stt (k n p : Nat) : ((k : Int) * (n : Int)).tdiv (p : Int) = ((stt n p k : Nat) : Int) := by
  rw [Int.tdiv_eq_ediv_of_nonneg (Int.mul_nonneg (by omega) (by omega))]
  unfold stt
  rw [Int.natCast_ediv, Int.natCast_mul]

theorem mul_small {k n : Nat} (hk : k ≤ 256) (hn : n ≤ 256) : IntKind.i64.wrap ((k : Int) * (n : Int)) = (k : Int) * (n : Int) := by
  have h1 : (k : Int) * (n : Int) ≤ 256 * 256 := Int.mul_le_mul (by omega) (by omega) (by omega) (by omega)
  have h2 : 0 ≤ (k : Int) * (n : Int) := Int.mul_nonneg (by omega) (by omega)
  rw [IntKind.wrap_i64]; omega

set_option maxHeartbeats 1600000 in
theorem starts_bad (n p : Int) (w : World) (h : ¬ (1 ≤ n ∧ n ≤ 256 ∧ 1 ≤ p ∧ p ≤ n)) : Calls Try.prog 15 #[.int .i64 n, .int .i64 p] w fun e w' => e = .returned (.tuple #[.slice none 0 0, .int .i64 1]) ∧ w' = w := by
  by_cases h1 : n < 1
  ·
    go_enter Try.func15, Try.ntmps15
    go_wp2
    exact bodyPost_ret (v := .tuple #[.slice none 0 0, .int .i64 1]) (by simp [results, Try.results15, go_sem]) rfl ⟨rfl, rfl⟩
  · by_cases h2 : 256 < n
    ·
      go_enter Try.func15, Try.ntmps15
      go_wp2
      exact bodyPost_ret (v := .tuple #[.slice none 0 0, .int .i64 1]) (by simp [results, Try.results15, go_sem]) rfl ⟨rfl, rfl⟩
    · by_cases h3 : p < 1
      ·
        go_enter Try.func15, Try.ntmps15
        go_wp2
        exact bodyPost_ret (v := .tuple #[.slice none 0 0, .int .i64 1]) (by simp [results, Try.results15, go_sem]) rfl ⟨rfl, rfl⟩
      · have h4 : n < p := by omega
        go_enter Try.func15, Try.ntmps15
        go_wp2
        exact bodyPost_ret (v := .tuple #[.slice none 0 0, .int .i64 1]) (by simp [results, Try.results15, go_sem]) rfl ⟨rfl, rfl⟩

set_option maxHeartbeats 3200000 in
set_option maxRecDepth 100000 in
theorem starts_any (n p : Nat) (w : World) (hp : 1 ≤ p) (hpn : p ≤ n) (hn : n ≤ 256) : Calls Try.prog 15 #[.int .i64 (n : Int), .int .i64 (p : Int)] w fun e w' => ∃ g cp, e = .returned (.tuple #[.slice (some ⟨g, 0, none⟩) p cp, .int .i64 0]) ∧ w'.ownsRow w.heap.size 3 1 (.slice (some ⟨g, 0, none⟩) p cp) p (sttCells n p p) ∧ g < w'.heap.size ∧ Below w.heap.size w w' := by
    obtain ⟨i0, hi0, hz0, hz1, hz2⟩ := info_parts infoInt
    have g1 : ¬ ((n : Int) < 1) := by omega
    have g2 : ¬ (256 < (n : Int)) := by omega
    have g3 : ¬ ((p : Int) < 1) := by omega
    have g4 : ¬ ((n : Int) < (p : Int)) := by omega
    have g5 : ¬ ((p : Int) = 0) := by omega
    go_enter Try.func15, Try.ntmps15
    go_wp2_with (at_make; refine wpList_make_own _ rfl _ _ 35 rfl w.heap.size 3 i0 (.int .i64 0) 1 Try.underlying35 hi0 hz0 hz1 _ _ _ p rfl rfl ?b1 ?b2 ?b3 (by simp) ?_)
    case b1 => omega
    case b2 => omega
    case b3 => unfold maxLen; omega
    intro w0 hown0 hgrow0
    have hb0 : Below w.heap.size w w0 := (Below.refl _ w).grown hgrow0 (Nat.le_refl _) (fun k e => by cases e)
    clear hgrow0
    go_wp2
    go_loopw [6, 26] (fun v i wr => ∃ k : Nat, k ≤ p ∧ i = .int .i64 (k : Int) ∧ wr.ownsRow w.heap.size 3 1 v k (sttCells n p k) ∧ (0 < k → ∃ g cp, v = .slice (some ⟨g, 0, none⟩) k cp) ∧ Below w.heap.size w wr) (fun _ i _ => p - (intOf i).toNat)
    case atStart => exact ⟨0, Nat.zero_le _, rfl, hown0, fun h => by omega, hb0⟩
    case round =>
      obtain ⟨k, hk, rfl, hown, hform, hnx⟩ := hrel
      by_cases hlt : (k : Int) < (p : Int)
      · have hmul := mul_small (k := k) (n := n) (by omega) hn
        have hquo := quo_stt k n p
        have hqw : IntKind.i64.wrap ((k : Int) + 1) = (k : Int) + 1 := by rw [IntKind.wrap_i64]; omega
        have hle := stt_le (n := n) (p := p) (j := k) hp (by omega)
        have hsw : IntKind.i64.wrap ((stt n p k : Nat) : Int) = ((stt n p k : Nat) : Int) := by rw [IntKind.wrap_i64]; omega
        have HS := aside (sttCells_succ n p k)
        generalize stt n p k = x at *
        clear hle hown0 hb0
        go_wp2_with (at_builtin; refine wpList_append_lies _ rfl _ _ _ rfl w.heap.size 3 i0 (.int .i64 0) 1 8 Try.underlying35 hi0 hz0 hz1 hz2 rfl (by decide) _ _ _ (by rfl) (hown.alloc _) ⟨wr.heap.size, 0, none⟩ 1 1 [.int .i64 (x : Int)] (by rfl) (by rfl) (World.news_of_block (cs := #[.int .i64 (x : Int)]) (t := 3) (fr := (0, 0)) (heap_alloc_new wr _)) (by simp [Value.oneCell']) (by omega) (by unfold maxLen; omega) (by omega) (by have := hnx.size; simp; omega) (wr.heap.size + 1) (by simp) ?_; intro g cp w1 hown1 hgrow hat hlt1; refine Hid.out ?_)
        refine aside ?_
        have HO := aside (show w1.ownsRow w.heap.size 3 1 (.slice (some ⟨g, 0, none⟩) (k + 1) cp) (k + 1) (sttCells n p (k + 1)) from by rw [HS.out]; exact hown1)
        have HB := aside (show Below w.heap.size w w1 from (hnx.alloc hnx.size _).grown hgrow (by have := hnx.size; simp; omega) (fun j hj => (hown.lt j hj).1))
        clear hown hown1 hgrow hat hlt1 hform hnx
        go_wp2
        go_roundw
        case rel => exact ⟨k + 1, by omega, by go_num, HO.out, fun _ => ⟨g, cp, rfl⟩, HB.out⟩
        case measure => simp [intOf]; omega
      · obtain rfl : p = k := by omega
        obtain ⟨g, cp, rfl⟩ := hform (by omega)
        have HO := aside hown
        have HB := aside hnx
        clear hown hnx hown0 hb0
        go_wp2
        exact bodyPost_ret (v := .tuple #[.slice (some ⟨g, 0, none⟩) p cp, .int .i64 0]) (by simp [results, Try.results15, go_sem]) rfl ⟨g, cp, rfl, HO.out, (HO.out.lt g rfl).2, HB.out⟩

set_option maxHeartbeats 1600000 in
theorem rstarts_bad (n p : Int) (w : World) (h : ¬ (1 ≤ n ∧ n ≤ 256 ∧ 1 ≤ p ∧ p ≤ n)) : Calls Try.prog 16 #[.int .i64 n, .int .i64 p] w fun e w' => e = .returned (.tuple #[.slice none 0 0, .int .i64 1]) ∧ w' = w := by
  by_cases h1 : n < 1
  ·
    go_enter Try.func16, Try.ntmps16
    go_wp2
    exact bodyPost_ret (v := .tuple #[.slice none 0 0, .int .i64 1]) (by simp [results, Try.results16, go_sem]) rfl ⟨rfl, rfl⟩
  · by_cases h2 : 256 < n
    ·
      go_enter Try.func16, Try.ntmps16
      go_wp2
      exact bodyPost_ret (v := .tuple #[.slice none 0 0, .int .i64 1]) (by simp [results, Try.results16, go_sem]) rfl ⟨rfl, rfl⟩
    · by_cases h3 : p < 1
      ·
        go_enter Try.func16, Try.ntmps16
        go_wp2
        exact bodyPost_ret (v := .tuple #[.slice none 0 0, .int .i64 1]) (by simp [results, Try.results16, go_sem]) rfl ⟨rfl, rfl⟩
      · have h4 : n < p := by omega
        go_enter Try.func16, Try.ntmps16
        go_wp2
        exact bodyPost_ret (v := .tuple #[.slice none 0 0, .int .i64 1]) (by simp [results, Try.results16, go_sem]) rfl ⟨rfl, rfl⟩

set_option maxHeartbeats 3200000 in
set_option maxRecDepth 100000 in
theorem rstarts_any (n p : Nat) (w : World) (hp : 1 ≤ p) (hpn : p ≤ n) (hn : n ≤ 256) : Calls Try.prog 16 #[.int .i64 (n : Int), .int .i64 (p : Int)] w fun e w' => ∃ g cp, e = .returned (.tuple #[.slice (some ⟨g, 0, none⟩) p cp, .int .i64 0]) ∧ w'.ownsRow w.heap.size 3 1 (.slice (some ⟨g, 0, none⟩) p cp) p (sttCells n p p) ∧ g < w'.heap.size ∧ Below w.heap.size w w' := by
    obtain ⟨i0, hi0, hz0, hz1, hz2⟩ := info_parts infoInt
    have g1 : ¬ ((n : Int) < 1) := by omega
    have g2 : ¬ (256 < (n : Int)) := by omega
    have g3 : ¬ ((p : Int) < 1) := by omega
    have g4 : ¬ ((n : Int) < (p : Int)) := by omega
    have g5 : ¬ ((p : Int) = 0) := by omega
    go_enter Try.func16, Try.ntmps16
    have hown0 : (w.alloc (.cells #[] 3)).ownsRow w.heap.size 3 1 (.slice (some ⟨w.heap.size, 0, none⟩) 0 0) 0 [] := World.ownsRow_made w #[] 0 (Nat.le_refl _) (Nat.zero_le _) rfl
    have hb0 := (Below.refl _ w).alloc (Nat.le_refl _) (.cells #[] 3)
    go_wp2
    go_loopw [6, 7] (fun v i wr => ∃ k : Nat, k ≤ p ∧ i = .int .i64 (k : Int) ∧ wr.ownsRow w.heap.size 3 1 v k (sttCells n p k) ∧ (0 < k → ∃ g cp, v = .slice (some ⟨g, 0, none⟩) k cp) ∧ Below w.heap.size w wr) (fun _ i _ => p - (intOf i).toNat)
    case atStart => exact ⟨0, Nat.zero_le _, rfl, hown0, fun h => by omega, hb0⟩
    case round =>
      obtain ⟨k, hk, rfl, hown, hform, hnx⟩ := hrel
      by_cases hlt : (k : Int) < (p : Int)
      · have hmul := mul_small (k := k) (n := n) (by omega) hn
        have hquo := quo_stt k n p
        have hqw : IntKind.i64.wrap ((k : Int) + 1) = (k : Int) + 1 := by rw [IntKind.wrap_i64]; omega
        have hle := stt_le (n := n) (p := p) (j := k) hp (by omega)
        have hsw : IntKind.i64.wrap ((stt n p k : Nat) : Int) = ((stt n p k : Nat) : Int) := by rw [IntKind.wrap_i64]; omega
        have HS := aside (sttCells_succ n p k)
        generalize stt n p k = x at *
        clear hle hown0 hb0
        go_wp2_with (at_builtin; refine wpList_append_lies _ rfl _ _ _ rfl w.heap.size 3 i0 (.int .i64 0) 1 8 Try.underlying35 hi0 hz0 hz1 hz2 rfl (by decide) _ _ _ (by rfl) (hown.alloc _) ⟨wr.heap.size, 0, none⟩ 1 1 [.int .i64 (x : Int)] (by rfl) (by rfl) (World.news_of_block (cs := #[.int .i64 (x : Int)]) (t := 3) (fr := (0, 0)) (heap_alloc_new wr _)) (by simp [Value.oneCell']) (by omega) (by unfold maxLen; omega) (by omega) (by have := hnx.size; simp; omega) (wr.heap.size + 1) (by simp) ?_; intro g cp w1 hown1 hgrow hat hlt1; refine Hid.out ?_)
        refine aside ?_
        have HO := aside (show w1.ownsRow w.heap.size 3 1 (.slice (some ⟨g, 0, none⟩) (k + 1) cp) (k + 1) (sttCells n p (k + 1)) from by rw [HS.out]; exact hown1)
        have HB := aside (show Below w.heap.size w w1 from (hnx.alloc hnx.size _).grown hgrow (by have := hnx.size; simp; omega) (fun j hj => (hown.lt j hj).1))
        clear hown hown1 hgrow hat hlt1 hform hnx
        go_wp2
        go_roundw
        case rel => exact ⟨k + 1, by omega, by go_num, HO.out, fun _ => ⟨g, cp, rfl⟩, HB.out⟩
        case measure => simp [intOf]; omega
      · obtain rfl : p = k := by omega
        obtain ⟨g, cp, rfl⟩ := hform (by omega)
        have HO := aside hown
        have HB := aside hnx
        clear hown hnx hown0 hb0
        go_wp2
        exact bodyPost_ret (v := .tuple #[.slice (some ⟨g, 0, none⟩) p cp, .int .i64 0]) (by simp [results, Try.results16, go_sem]) rfl ⟨g, cp, rfl, HO.out, (HO.out.lt g rfl).2, HB.out⟩

end Go.Proofs.Ytagcenfjdjaaaaa

/-
  The document's tree, a sorted list: Rank, Get, Len, At walked.
-/
import Derived.Test.YtnlmlhoddchgbaaTrRowOwn
namespace Go.Proofs.Ytnlmlhoddchgbaa
open Go.RowKit
set_option linter.unusedVariables false

/-- The document's tree in memory. -/
def RT (W : World) (rb : Nat) (l : List RowR) : Prop :=
  ∃ v, W.heap[rb]? = some (.cells #[v] 83 (0, 0)) ∧ W.ownsRow 0 64 4 v l.length (rowCells l) ∧ ValsOk l ∧ l.length * 40 ≤ 140737488351232

theorem RT.on {W W' : World} {rb : Nat} {l : List RowR} (h : RT W rb l) (b : Below W.heap.size W W') : RT W' rb l := by
  obtain ⟨v, h1, h2, h3, h4⟩ := h
  exact ⟨v, blk_on h1 b, own_on h2 b, h3, h4⟩

theorem RT.open {W : World} {rb : Nat} {l : List RowR} (h : RT W rb l) : ∃ a cap, W.cell? ⟨rb, 0, none⟩ = some (.slice a l.length cap) ∧ RowsIn6 W a l.length cap (nthR l) := by
  obtain ⟨v, h1, h2, h3, h4⟩ := h
  obtain ⟨a, cap, rfl, h5, h6, h7⟩ := own_slice h2
  exact ⟨a, cap, by simp [World.cell?, h1], rows_of_row h2 h3 h4⟩

theorem take_nthR {l : List RowR} {q : Nat} (h : q < l.length) : l.take (q + 1) = l.take q ++ [nthR l q] := by
  rw [List.take_add_one, nthR_get h]; rfl

theorem split_nthR {l : List RowR} {q : Nat} (h : q < l.length) : l = l.take q ++ nthR l q :: l.drop (q + 1) := by
  have h1 := List.take_append_drop (q + 1) l
  rw [take_nthR h, List.append_assoc] at h1
  exact h1.symm

theorem rank_step (key : ByteArray) {l : List RowR} {q : Nat} (h : q < l.length) : rankL key ((l.take (q + 1)).map rowOf) = rankL key ((l.take q).map rowOf) + (if kLt (nthR l q).key key then 1 else 0) := by
  rw [take_nthR h]
  unfold rankL
  rw [List.map_append, List.filter_append, List.length_append]
  congr 1
  simp only [List.map_cons, List.map_nil, List.filter_cons, List.filter_nil]
  show (if kLt (nthR l q).key key = true then _ else _ : List (Rw Int Mp)).length = _
  split <;> rfl

theorem rank_le (key : ByteArray) (l : List RowR) (q : Nat) : rankL key ((l.take q).map rowOf) ≤ q := by
  unfold rankL
  refine Nat.le_trans (List.length_filter_le _ _) ?_
  simp; omega

set_option maxHeartbeats 3200000 in
set_option maxRecDepth 100000 in
theorem rrank_any (key : ByteArray) {W : World} {rb : Nat} {l : List RowR} (h : RT W rb l) :
    Calls Try.prog 45 #[.pointer (some ⟨rb, 0, none⟩), .string key] W fun e w' => e = .returned (.int .i64 (rankL key (l.map rowOf) : Int)) ∧ Below W.heap.size W w' := by
  obtain ⟨a, cap, hc, hr⟩ := h.open
  have HO := aside hr
  have hmx : (l.length : Int) ≤ 9223372036854775807 := by have := hr.2.2.1; omega
  have HSZ := aside hr.2.2.1
  obtain ⟨n, hn⟩ : ∃ n, l.length = n := ⟨_, rfl⟩
  rw [hn] at hc HO hmx HSZ
  have HN := aside hn
  clear hr h hn
  go_enter Try.func45, Try.ntmps45
  go_wp2
  go_loopw [5, 13] (fun v i X => ∃ q : Nat, i = .int .i64 (q : Int) ∧ q ≤ n ∧ v = .int .i64 (rankL key ((l.take q).map rowOf) : Int) ∧ Below W.heap.size W X) (fun _ i _ => n - (intOf i).toNat)
  case atStart => exact ⟨0, rfl, Nat.zero_le _, rfl, Below.refl _ _⟩
  case round =>
    obtain ⟨q, rfl, hq, rfl, bX⟩ := hrel
    have BX := aside bX
    clear bX
    by_cases hlt : (q : Int) < (n : Int)
    · rcases (HO.out.keep BX.out).2.2.2 with h0 | ⟨b, off, rfl, hbl, hcc⟩
      · omega
      · obtain ⟨⟨c0, c1, c2, c3⟩, -⟩ := hcc q (by omega)
        have hq0 : (0 : Int) ≤ (q : Int) := by omega
        have hqw : IntKind.i64.wrap ((q : Int) + 1) = (q : Int) + 1 := by rw [IntKind.wrap_i64]; omega
        have QL := aside (show q + 1 ≤ n from by omega)
        have HS := aside (rank_step key (l := l) (q := q) (by have := HN.out; omega))
        have hle := rank_le key l q
        have hrw : IntKind.i64.wrap ((rankL key ((l.take q).map rowOf) : Int) + 1) = (rankL key ((l.take q).map rowOf) : Int) + 1 := by rw [IntKind.wrap_i64]; omega
        generalize rankL key ((l.take q).map rowOf) = r at *
        generalize nthR l q = x at *
        have BY := aside (bthen BX.out (bnew wr (.cells #[.string x.key, .int .i64 x.v, .int .u64 x.s.a, .int .u64 x.s.b] 64)))
        clear hcc hbl hq hle
        cases hk : Op.bytesLess x.key.toList key.toList
        · have HR := aside (show rankL key ((l.take (q + 1)).map rowOf) = r from by rw [HS.out, if_neg (by show ¬ Op.bytesLess x.key.toList key.toList = true; rw [hk]; simp)]; rfl)
          go_wp2
          go_roundw
          case rel => exact ⟨q + 1, by go_num, QL.out, by rw [HR.out], BY.out⟩
          case measure => simp [intOf]; have := QL.out; omega
        · have HR := aside (show rankL key ((l.take (q + 1)).map rowOf) = r + 1 from by rw [HS.out, if_pos (by show Op.bytesLess x.key.toList key.toList = true; exact hk)])
          go_wp2
          go_roundw
          case rel => exact ⟨q + 1, by go_num, QL.out, by rw [HR.out]; go_num, BY.out⟩
          case measure => simp [intOf]; have := QL.out; omega
    · have hqn : n = q := by omega
      subst hqn
      rw [List.take_of_length_le (show l.length ≤ n from by have := HN.out; omega)]
      go_wp2
      go_ret
      exact ⟨rfl, BX.out⟩

/-- What Get says. -/
def getV (o : Option (Rw Int Mp)) : Int := match o with | some y => y.v | none => 0

theorem look_app {key : ByteArray} {l m : List (Rw Int Mp)} (h : look key l = none) : look key (l ++ m) = look key m := by
  unfold look at *
  rw [List.find?_append, h, Option.none_or]

set_option maxHeartbeats 3200000 in
set_option maxRecDepth 100000 in
theorem rget_any (key : ByteArray) {W : World} {rb : Nat} {l : List RowR} (h : RT W rb l) :
    Calls Try.prog 44 #[.pointer (some ⟨rb, 0, none⟩), .string key] W fun e w' => e = .returned (.tuple #[.int .i64 (getV (look key (l.map rowOf))), .bool (look key (l.map rowOf)).isSome]) ∧ Below W.heap.size W w' := by
  obtain ⟨a, cap, hc, hr⟩ := h.open
  have HO := aside hr
  have hmx : (l.length : Int) ≤ 9223372036854775807 := by have := hr.2.2.1; omega
  obtain ⟨n, hn⟩ : ∃ n, l.length = n := ⟨_, rfl⟩
  rw [hn] at hc HO hmx
  have HN := aside hn
  clear hr h hn
  go_enter Try.func44, Try.ntmps44
  go_wp2
  go_loopw [13] (fun i X => ∃ q : Nat, i = .int .i64 (q : Int) ∧ q ≤ n ∧ look key ((l.take q).map rowOf) = none ∧ Below W.heap.size W X) (fun i _ => n - (intOf i).toNat)
  case atStart => exact ⟨0, rfl, Nat.zero_le _, rfl, Below.refl _ _⟩
  case round =>
    obtain ⟨q, rfl, hq, hl, bX⟩ := hrel
    have BX := aside bX
    have HL := aside hl
    clear bX hl
    by_cases hlt : (q : Int) < (n : Int)
    · rcases (HO.out.keep BX.out).2.2.2 with h0 | ⟨b, off, rfl, hbl, hcc⟩
      · omega
      · obtain ⟨⟨c0, c1, c2, c3⟩, -⟩ := hcc q (by omega)
        have hq0 : (0 : Int) ≤ (q : Int) := by omega
        have hqw : IntKind.i64.wrap ((q : Int) + 1) = (q : Int) + 1 := by rw [IntKind.wrap_i64]; omega
        have QL := aside (show q + 1 ≤ n from by omega)
        have HS := aside (split_nthR (l := l) (q := q) (by have := HN.out; omega))
        have HT := aside (take_nthR (l := l) (q := q) (by have := HN.out; omega))
        generalize nthR l q = x at *
        have BY := aside (bthen BX.out (bnew wr (.cells #[.string x.key, .int .i64 x.v, .int .u64 x.s.a, .int .u64 x.s.b] 64)))
        clear hcc hbl hq
        by_cases hk : x.key = key
        · have HR := aside (show look key (l.map rowOf) = some (rowOf x) from by
            rw [HS.out, List.map_append, look_app HL.out, List.map_cons]
            unfold look
            rw [List.find?_cons_of_pos]
            show (!kLt key x.key && !kLt x.key key) = true
            rw [hk, kLt_irrefl]; rfl)
          rw [hk] at BY c0
          go_wp2
          exact bodyPost_ret (v := .tuple #[.int .i64 x.v, .bool true]) (by simp [results, Try.results44, go_sem]) rfl ⟨by rw [HR.out]; rfl, BY.out⟩
        · have HR := aside (show look key ((l.take (q + 1)).map rowOf) = none from by
            rw [HT.out, List.map_append, look_app HL.out, List.map_cons, List.map_nil]
            unfold look
            rw [List.find?_cons_of_neg, List.find?_nil]
            show ¬ (!kLt key x.key && !kLt x.key key) = true
            intro e
            simp only [Bool.and_eq_true, Bool.not_eq_true'] at e
            exact hk (kLt_total e.2 e.1))
          have hkl : (x.key.toList == key.toList) = false := by simpa using fun e => hk (toList_inj e)
          go_wp2
          go_roundw
          case rel => exact ⟨q + 1, by go_num, QL.out, HR.out, BY.out⟩
          case measure => simp [intOf]; have := QL.out; omega
    · have hqn : n = q := by omega
      subst hqn
      go_wp2
      have e1 : look key (l.map rowOf) = none := by
        have := HL.out
        rwa [List.take_of_length_le (by have := HN.out; omega)] at this
      exact bodyPost_ret (v := .tuple #[.int .i64 0, .bool false]) (by simp [results, Try.results44, go_sem]) rfl ⟨by rw [e1]; rfl, BX.out⟩

set_option maxHeartbeats 1600000 in
theorem rlen_any {W : World} {rb : Nat} {l : List RowR} (h : RT W rb l) :
    Calls Try.prog 43 #[.pointer (some ⟨rb, 0, none⟩)] W fun e w' => e = .returned (.int .i64 (l.length : Int)) ∧ w' = W := by
  obtain ⟨a, cap, hc, hr⟩ := h.open
  clear hr h
  go_enter Try.func43, Try.ntmps43
  go_wp2
  go_ret
  exact ⟨rfl, rfl⟩

end Go.Proofs.Ytnlmlhoddchgbaa

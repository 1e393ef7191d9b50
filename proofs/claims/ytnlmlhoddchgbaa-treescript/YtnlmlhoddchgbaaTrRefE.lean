/-
  The document's tree: Put walked.
-/
import Derived.Test.YtnlmlhoddchgbaaTrRefD
namespace Go.Proofs.Ytnlmlhoddchgbaa
open Go.RowKit
set_option linter.unusedVariables false

theorem rows_prefix {W : World} {a : Option Addr} {n cap I : Nat} {T : Nat → RowR} (h : RowsIn6 W a n cap T) (hI : I ≤ n) : RowsIn6 W a I cap T := by
  obtain ⟨h1, h2, h3, h4⟩ := h
  refine ⟨by omega, h2, by omega, ?_⟩
  rcases h4 with h4 | ⟨b, off, e, hb, hc⟩
  · exact .inl (by omega)
  · exact .inr ⟨b, off, e, hb, fun i hi => hc i (by omega)⟩

theorem take_range (l : List RowR) {I : Nat} (h : I ≤ l.length) : (List.range I).map (nthR l) = l.take I := by
  apply List.ext_getElem?
  intro i
  rw [List.getElem?_take]
  by_cases hi : i < I
  · rw [List.getElem?_map, List.getElem?_range hi, if_pos hi, nthR_get (by omega)]; rfl
  · rw [List.getElem?_eq_none (by simp; omega), if_neg hi]

theorem drop_range (l : List RowR) (K : Nat) : (List.range (l.length - K)).map (fun d => nthR l (K + d)) = l.drop K := by
  apply List.ext_getElem?
  intro i
  rw [List.getElem?_drop]
  by_cases hi : i < l.length - K
  · rw [List.getElem?_map, List.getElem?_range hi, nthR_get (by omega)]; rfl
  · rw [List.getElem?_eq_none (by simp; omega), List.getElem?_eq_none (by omega)]

/-- The tail of rows that are read. -/
theorem rows_tail {W : World} {a : Option Addr} {n cap : Nat} {T : Nat → RowR} (h : RowsIn6 W a n cap T) (hf : (a = none ∧ n = 0 ∧ cap = 0) ∨ ∃ b off, a = some ⟨b, off, none⟩) {K : Nat} (hK : K ≤ n) :
    ∃ aT, RowsIn6 W aT (n - K) (cap - K) (fun d => T (K + d)) ∧ ((aT = none ∧ n - K = 0 ∧ cap - K = 0) ∨ ∃ y, aT = some y) ∧ (∀ b off, a = some ⟨b, off, none⟩ → (if cap = K then some (⟨b, off, none⟩ : Addr) else some ⟨b, off + K * 4, none⟩) = aT) ∧ (a = none → aT = none) := by
  obtain ⟨h1, h2, h3, h4⟩ := h
  rcases hf with ⟨rfl, rfl, rfl⟩ | ⟨b, off, rfl⟩
  · exact ⟨none, ⟨by omega, by omega, by omega, .inl (by omega)⟩, .inl ⟨rfl, by omega, by omega⟩, fun _ _ e => by (cases e), fun _ => rfl⟩
  · refine ⟨if cap = K then some ⟨b, off, none⟩ else some ⟨b, off + K * 4, none⟩, ⟨by omega, by omega, by omega, ?_⟩, .inr ?_, fun b' off' e => by (injection e with e; injection e with e1 e2; subst e1 e2; rfl), fun e => by cases e⟩
    · by_cases hz : n - K = 0
      · exact .inl hz
      · rw [if_neg (by omega)]
        rcases h4 with h4 | ⟨b', off', e, hb, hc⟩
        · omega
        · injection e with e
          injection e with e1 e2
          subst e1 e2
          refine .inr ⟨b, off + K * 4, rfl, hb, fun i hi => ?_⟩
          have := hc (K + i) (by omega)
          rw [show off + (K + i) * 4 = off + K * 4 + i * 4 from by omega] at this
          exact this
    · split
      · exact ⟨_, rfl⟩
      · exact ⟨_, rfl⟩

theorem look_rank {key : ByteArray} {l : List (Rw Int Mp)} (h : (look key l).isSome = true) : rankL key l < l.length := by
  unfold look at h
  rw [List.find?_isSome] at h
  obtain ⟨x, hx, hp⟩ := h
  unfold rankL
  rw [List.length_filter_lt_length_iff_exists]
  refine ⟨x, hx, ?_⟩
  simp only [Bool.and_eq_true, Bool.not_eq_true'] at hp
  rw [hp.2]
  simp

/-- Where Put goes on behind a row that is there. -/
def putK (key : ByteArray) (l : List (Rw Int Mp)) : Nat := if (look key l).isSome then rankL key l + 1 else rankL key l

theorem putK_le (key : ByteArray) (l : List RowR) : putK key (l.map rowOf) ≤ l.length := by
  unfold putK
  split
  · rename_i h
    have := look_rank h
    rw [List.length_map] at this
    exact this
  · have := rank_le key l l.length
    rwa [List.take_length] at this

theorem put_end {W w4 w5 : World} {rb n I K g4 c4 : Nat} {v5 : Value} {l : List RowR} {x : RowR} (h : RT W rb l) (b4 : Below W.heap.size W w4) (o4 : w4.ownsRow W.heap.size 64 4 (.slice (some ⟨g4, 0, none⟩) (I + 1) c4) (I + 1) (rowCells (l.take I ++ [x])))
    (o5 : w5.ownsRow W.heap.size 64 4 v5 (I + 1 + (n - K)) (rowCells (l.take I ++ [x] ++ l.drop K))) (gr5 : w4.grownBy w5 (Value.slice (some ⟨g4, 0, none⟩) (I + 1) c4).ownBlock) (hx : I64 x.v) (hz : (l.length + 1) * 40 ≤ 140737488351232) (hK : K ≤ l.length) (hIK : I ≤ K) (hn : l.length = n) :
    ((∃ u, w5.cell? ⟨rb, 0, none⟩ = some u) ∧ w5.frozen? ⟨rb, 0, none⟩ = false) ∧ RT (w5.setCell ⟨rb, 0, none⟩ v5) rb (l.take I ++ [x] ++ l.drop K) ∧ Keeps (fun b => b = rb) W (w5.setCell ⟨rb, 0, none⟩ v5) := by
  have b5 : Below W.heap.size W w5 := b4.grown gr5 b4.size (fun k hk => (o4.lt k hk).1)
  obtain ⟨u, h1, h2, h3, h4⟩ := h.on b5
  have hrb : rb < W.heap.size := by obtain ⟨u', q1, -⟩ := h; exact (Array.getElem?_eq_some_iff.1 q1).1
  have hl : (l.take I ++ [x] ++ l.drop K).length = I + 1 + (n - K) := by simp; omega
  refine ⟨⟨⟨u, by simp [World.cell?, h1]⟩, by simp [World.frozen?, h1]⟩, ⟨v5, one_setCell h1, ?_, ?_, by rw [hl]; omega⟩, (Keeps.of_below b5 (fun b => b = rb)).setCell (p := ⟨rb, 0, none⟩) (fun _ => rfl) v5⟩
  · rw [hl]
    refine own_low (ownsRow_setCell_other o5 ?_ _) (Nat.zero_le _)
    intro e
    have := (o5.lt rb e).1
    omega
  · intro e he
    simp only [List.mem_append, List.mem_singleton] at he
    rcases he with (he | he) | he
    · exact h3 e (List.mem_of_mem_take he)
    · subst he; exact hx
    · exact h3 e (List.mem_of_mem_drop he)

set_option maxHeartbeats 6400000 in
set_option maxRecDepth 100000 in
theorem rput_any (key : ByteArray) (v : Int) (s : Mp) {W : World} {rb : Nat} {l : List RowR} (h : RT W rb l) (hv : I64 v) (hz : (l.length + 1) * 40 ≤ 140737488351232) :
    Calls Try.prog 42 #[.pointer (some ⟨rb, 0, none⟩), .string key, .int .i64 v, .agg #[.int .u64 s.a, .int .u64 s.b]] W fun e w' => e = .returned (.tuple #[.int .i64 (getV (look key (l.map rowOf))), .bool (look key (l.map rowOf)).isSome]) ∧ RT w' rb (l.take (rankL key (l.map rowOf)) ++ [⟨key, v, s⟩] ++ l.drop (putK key (l.map rowOf))) ∧ Keeps (fun b => b = rb) W w' := by
  have H := aside h
  have HV := aside hv
  have HZ := aside hz
  have HKL := aside (putK_le key l)
  have HIL := aside (show rankL key (l.map rowOf) ≤ l.length from by have := rank_le key l l.length; rwa [List.take_length] at this)
  obtain ⟨a, cap, hc, hr, hf⟩ := h.form
  have HR := aside hr
  have hf2 : (a = none ∧ l.length = 0 ∧ cap = 0) ∨ ∃ b off, a = some ⟨b, off, none⟩ := by
    rcases hr.2.2.2 with h0 | ⟨b, off, e, -, -⟩
    · rcases hf with hf | ⟨y, rfl⟩
      · exact .inl hf
      · obtain ⟨u, h1, h2, -, -⟩ := h
        obtain ⟨a', c', rfl, -, -, h7⟩ := own_slice h2
        have : some (Value.slice a' l.length c') = some (.slice (some y) l.length cap) := by rw [← hc]; simp [World.cell?, h1]
        injection this with this
        injection this with e1 e2 e3
        rcases h7 with ⟨h7, -⟩ | ⟨g, h7, -⟩
        · rw [h7] at e1; cases e1
        · exact .inr ⟨g, 0, by rw [← e1, h7]⟩
    · exact .inr ⟨b, off, e⟩
  have HF2 := aside hf2
  have HF := aside hf
  have B0 := aside (bnew W (.cells #[.int .u64 s.a, .int .u64 s.b] 28))
  have X0 := aside (heap_alloc_new W (.cells #[.int .u64 s.a, .int .u64 s.b] 28))
  clear h hv hz hr hf hf2
  go_enter Try.func42, Try.ntmps42
  go_wp2_with fail
  refine (rrank_any key (H.out.on B0.out)).mono ?_
  rintro e w1 ⟨rfl, b1⟩
  have B1 := aside (bthen B0.out b1)
  have X1 := aside (blk_on X0.out b1)
  clear b1 B0 X0
  go_wp2_with fail
  refine (rget_any key (H.out.on B1.out)).mono ?_
  rintro e w2 ⟨rfl, b2⟩
  have B2 := aside (bthen B1.out b2)
  have X2 := aside (blk_on X1.out b2)
  clear b2 B1 X1
  obtain ⟨I, hI⟩ : ∃ x, rankL key (l.map rowOf) = x := ⟨_, rfl⟩
  obtain ⟨K, hK⟩ : ∃ x, putK key (l.map rowOf) = x := ⟨_, rfl⟩
  obtain ⟨bS, hS⟩ : ∃ x, (look key (l.map rowOf)).isSome = x := ⟨_, rfl⟩
  obtain ⟨G, hG⟩ : ∃ x, getV (look key (l.map rowOf)) = x := ⟨_, rfl⟩
  have HKI := aside (show K = if bS then I + 1 else I from by rw [← hK, ← hS, ← hI]; rfl)
  have HPOST := aside (And.intro hI (And.intro hK (And.intro hS hG)))
  rw [hI] at HIL ⊢
  rw [hK] at HKL
  rw [hS, hG]
  clear hI hK hS hG
  obtain ⟨n, hn⟩ : ∃ n, l.length = n := ⟨_, rfl⟩
  have HN := aside hn
  have hc2 : w2.cell? ⟨rb, 0, none⟩ = some (.slice a l.length cap) := (B2.out.cell (p := ⟨rb, 0, none⟩) (World.block_lt_of_cell? W ⟨rb, 0, none⟩ hc)).trans hc
  rw [hn] at hc2 HR HF HF2 HIL HKL HZ
  have HC0 := aside (hn ▸ hc : W.cell? ⟨rb, 0, none⟩ = some (.slice a n cap))
  have HW := aside (show w2.ownsRow W.heap.size 64 4 (.slice none 0 0) 0 (rowCells []) from World.ownsRow_nil _ _ _ _)
  have HR2 := aside (HR.out.keep B2.out)
  have hIn := HIL.out
  have hcap := HR.out.1
  have hI0 : (0 : Int) ≤ (I : Int) := by omega
  have hIc : I ≤ cap := by omega
  clear hc hn
  go_wp2_with (at_builtin; refine wpList_plain rfl fun K hK => op_append_src _ _ rfl W.heap.size 0 (.slice none 0 0) [] (by rfl) HW.out a I cap (nthR l) (by rfl) (rows_prefix HR2.out HIL.out) (by rcases HF.out with ⟨f1, f2, f3⟩ | f; exact .inl ⟨f1, by have := HIL.out; omega, f3⟩; exact .inr f) (by have := HZ.out; have := HIL.out; omega) B2.out.size ?_; intro v3 w3 own3 gr3; refine hK _ _ ?_; refine Hid.out ?_)
  refine aside ?_
  rw [List.nil_append, take_range l (by have := HN.out; omega), Nat.zero_add] at own3
  have b3 : Below w2.heap.size w2 w3 := (Below.refl _ w2).grown gr3 (Nat.le_refl _) (fun k e => by cases e)
  have B3 := aside (bthen B2.out b3)
  have x3 := blk_on X2.out b3
  have O3 := aside own3
  obtain ⟨a3, c3, rfl, -, -, -⟩ := own_slice own3
  obtain ⟨d0, d1⟩ : w3.cell? ⟨W.heap.size, 0, none⟩ = some (.int .u64 s.a) ∧ w3.cell? ⟨W.heap.size, 1, none⟩ = some (.int .u64 s.b) := by
    simp [World.cell?, x3]
  have HVW := aside B3.out.size
  clear own3 gr3 b3 x3 X2 hc2 HW
  go_wp2_with (at_builtin; refine wpList_plain rfl fun K hK => op_append_row _ _ rfl W.heap.size I (.slice a3 I c3) (l.take I) (by rfl) (O3.out.alloc _) _ 1 ⟨key, v, s⟩ (by rfl) (heap_alloc_new _ _) (by have := HZ.out; have := HIL.out; omega) (by have := HVW.out; simp; omega) ?_; intro g4 c4 w4 own4 gr4; refine hK _ _ ?_; refine Hid.out ?_)
  refine aside ?_
  have B4 := aside (show Below W.heap.size W w4 from (B3.out.alloc HVW.out _).grown gr4 (by have := HVW.out; simp; omega) (fun k hk => (O3.out.lt k hk).1))
  have O4 := aside own4
  clear own4 gr4 d0 d1 O3 B3 HVW
  have hc4 : w4.cell? ⟨rb, 0, none⟩ = some (.slice a n cap) := by
    obtain ⟨a', c', q1, q2⟩ := (H.out.on B4.out).open
    have := HC0.out
    exact (B4.out.cell (p := ⟨rb, 0, none⟩) (World.block_lt_of_cell? W ⟨rb, 0, none⟩ this)).trans this
  have hIw : IntKind.i64.wrap ((I : Int) + 1) = (I : Int) + 1 := by have := HZ.out; rw [IntKind.wrap_i64]; omega
  rcases HF2.out with ⟨rfl, rfl, rfl⟩ | ⟨b, off, rfl⟩
  · have hI00 : I = 0 := by omega
    subst hI00
    cases bS
    · obtain ⟨aT, hT1, hT2, hT3, hT4⟩ := rows_tail (HR.out.keep B4.out) HF2.out (K := 0) (by have := HKL.out; have := HKI.out; simp at this; omega)
      have HT1 := aside hT1
      have HT2 := aside hT2
      have haT := hT4 rfl
      subst haT
      clear hT1 hT2 hT3 hT4
      go_wp2_with (at_builtin; refine wpList_plain rfl fun K hK => op_append_src _ _ rfl W.heap.size (0 + 1) (.slice (some ⟨g4, 0, none⟩) (0 + 1) c4) (l.take 0 ++ [⟨key, v, s⟩]) (by rfl) O4.out none (0 - 0) (0 - 0) (fun d => nthR l (0 + d)) (by rfl) HT1.out HT2.out (by have := HZ.out; omega) B4.out.size ?_; intro v5 w5 own5 gr5; refine hK _ _ ?_; refine Hid.out ?_)
      refine aside ?_
      have hdr : (List.range (0 - 0)).map (fun d => nthR l (0 + d)) = l.drop (0) := by have := drop_range l 0; rwa [HN.out] at this
      rw [hdr] at own5
      have FIN := aside (put_end (K := 0) H.out B4.out O4.out own5 gr5 HV.out (by have := HZ.out; have := HN.out; omega) (Nat.zero_le _) (Nat.le_refl _) HN.out)
      obtain ⟨a5, c5, rfl, -, -, -⟩ := own_slice own5
      obtain ⟨⟨u5, z0⟩, z1⟩ := FIN.out.1
      clear own5 gr5 hdr
      go_wp2
      obtain ⟨p1, p2, p3, p4⟩ := HPOST.out
      exact bodyPost_ret (v := .tuple #[.int .i64 G, .bool false]) (by simp [results, Try.results42, go_sem]) rfl ⟨by rw [p3, p4], by rw [p1, p2, HKI.out]; exact FIN.out.2.1, FIN.out.2.2⟩
    · have h1 := HKI.out
      have h2 := HKL.out
      simp at h1
      omega
  · cases bS
    · obtain ⟨aT, hT1, hT2, hT3, hT4⟩ := rows_tail (HR.out.keep B4.out) HF2.out (K := I) (by have := HKL.out; have := HKI.out; simp at this; omega)
      have HT1 := aside hT1
      have HT2 := aside hT2
      have haT := hT3 b off rfl
      have hk0 := HKI.out
      clear hT1 hT2 hT3 hT4
      go_wp2_with (at_builtin; refine wpList_plain rfl fun K hK => op_append_src _ _ rfl W.heap.size (I + 1) (.slice (some ⟨g4, 0, none⟩) (I + 1) c4) (l.take I ++ [⟨key, v, s⟩]) (by rfl) O4.out aT (n - (I)) (cap - (I)) (fun d => nthR l (I + d)) (by rfl) HT1.out HT2.out (by have := HZ.out; have := HKL.out; have := HKI.out; have := HIL.out; simp at *; omega) B4.out.size ?_; intro v5 w5 own5 gr5; refine hK _ _ ?_; refine Hid.out ?_)
      refine aside ?_
      have hdr : (List.range (n - (I))).map (fun d => nthR l (I + d)) = l.drop (I) := by have := drop_range l (I); rwa [HN.out] at this
      rw [hdr] at own5
      have FIN := aside (put_end (K := I) H.out B4.out O4.out own5 gr5 HV.out (by have := HZ.out; have := HN.out; omega) (by have := HKL.out; have := HKI.out; have := HN.out; simp at *; omega) (by have := HKI.out; simp at this; omega) HN.out)
      obtain ⟨a5, c5, rfl, -, -, -⟩ := own_slice own5
      generalize I + 1 + (n - (I)) = m5 at *
      obtain ⟨⟨u5, z0⟩, z1⟩ := FIN.out.1
      clear own5 gr5 hdr
      go_wp2
      obtain ⟨p1, p2, p3, p4⟩ := HPOST.out
      exact bodyPost_ret (v := .tuple #[.int .i64 G, .bool false]) (by simp [results, Try.results42, go_sem]) rfl ⟨by rw [p3, p4], by rw [p1, p2, HKI.out]; exact FIN.out.2.1, FIN.out.2.2⟩
    · obtain ⟨aT, hT1, hT2, hT3, hT4⟩ := rows_tail (HR.out.keep B4.out) HF2.out (K := I + 1) (by have := HKL.out; have := HKI.out; simp at this; omega)
      have HT1 := aside hT1
      have HT2 := aside hT2
      have haT := hT3 b off rfl
      have hk1 : I + 1 ≤ n := by have h1 := HKI.out; have h2 := HKL.out; simp at h1; omega
      have hI1 : (0 : Int) ≤ (I : Int) + 1 := by omega
      clear hT1 hT2 hT3 hT4
      go_wp2_with (at_builtin; refine wpList_plain rfl fun K hK => op_append_src _ _ rfl W.heap.size (I + 1) (.slice (some ⟨g4, 0, none⟩) (I + 1) c4) (l.take I ++ [⟨key, v, s⟩]) (by rfl) O4.out aT (n - (I + 1)) (cap - (I + 1)) (fun d => nthR l (I + 1 + d)) (by rfl) HT1.out HT2.out (by have := HZ.out; have := HKL.out; have := HKI.out; have := HIL.out; simp at *; omega) B4.out.size ?_; intro v5 w5 own5 gr5; refine hK _ _ ?_; refine Hid.out ?_)
      refine aside ?_
      have hdr : (List.range (n - (I + 1))).map (fun d => nthR l (I + 1 + d)) = l.drop (I + 1) := by have := drop_range l (I + 1); rwa [HN.out] at this
      rw [hdr] at own5
      have FIN := aside (put_end (K := I + 1) H.out B4.out O4.out own5 gr5 HV.out (by have := HZ.out; have := HN.out; omega) (by have := HKL.out; have := HKI.out; have := HN.out; simp at *; omega) (by have := HKI.out; simp at this; omega) HN.out)
      obtain ⟨a5, c5, rfl, -, -, -⟩ := own_slice own5
      generalize I + 1 + (n - (I + 1)) = m5 at *
      obtain ⟨⟨u5, z0⟩, z1⟩ := FIN.out.1
      clear own5 gr5 hdr
      go_wp2
      obtain ⟨p1, p2, p3, p4⟩ := HPOST.out
      exact bodyPost_ret (v := .tuple #[.int .i64 G, .bool true]) (by simp [results, Try.results42, go_sem]) rfl ⟨by rw [p3, p4], by rw [p1, p2, HKI.out, if_pos (by trivial)]; exact FIN.out.2.1, FIN.out.2.2⟩

end Go.Proofs.Ytnlmlhoddchgbaa

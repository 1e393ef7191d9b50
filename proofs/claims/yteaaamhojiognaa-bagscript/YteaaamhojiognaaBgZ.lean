/-
  The library's iterator over a list of packets.
-/
import Derived.Test.YteaaamhojiognaaBgY
import Derived.Test.YteaaamhojiognaaBgX
namespace Go.Proofs.Yteaaamhojiognaa
open Go.RowKit Go.Shelf
set_option linter.unusedVariables false

attribute [local go_sem] Oper.semAt_some
/-- A list of packets in a row. -/
def PkRow (W : World) (a : Option Addr) (n c : Nat) (l : List Pk) : Prop :=
  l.length = n ∧ n ≤ c ∧ c ≤ maxLen ∧ ((a = none ∧ n = 0) ∨ ∃ g o cur, a = some ⟨g, o, none⟩ ∧ W.heap[g]? = some (.cells cur 39 (0, 0)) ∧ ∀ j u, (pkCells l)[j]? = some u → cur[o + j]? = some u)
theorem PkRow.stay {W W' : World} {a : Option Addr} {n c : Nat} {l : List Pk} (h : PkRow W a n c l) (k : Stay 39 W W') : PkRow W' a n c l := by
  obtain ⟨h1, h2, h3, h4⟩ := h
  refine ⟨h1, h2, h3, ?_⟩
  rcases h4 with h4 | ⟨g, o, cur, e, hg, hc⟩
  · exact .inl h4
  · exact .inr ⟨g, o, cur, e, k _ _ hg, hc⟩
theorem stay_below {T : TypeId} {W W' : World} (b : Below W.heap.size W W') : Stay T W W' := fun _ _ h => blk_on h b
theorem PkRow.on {W W' : World} {a : Option Addr} {n c : Nat} {l : List Pk} (h : PkRow W a n c l) (b : Below W.heap.size W W') : PkRow W' a n c l := h.stay (stay_below b)
theorem PkRow.at {W : World} {a : Option Addr} {n c : Nat} {l : List Pk} (h : PkRow W a n c l) {i : Nat} {p : Pk} (hi : l[i]? = some p) : ∃ g o, a = some ⟨g, o, none⟩ ∧ W.cell? ⟨g, o + i * 4, none⟩ = some (.int .i64 p.num) ∧ W.cell? ⟨g, o + i * 4 + 1, none⟩ = some (.int .i64 p.frm) ∧ W.cell? ⟨g, o + i * 4 + 2, none⟩ = some (.int .i64 p.dst) ∧ W.cell? ⟨g, o + i * 4 + 3, none⟩ = some (.slice p.da p.dl p.dc) := by
  obtain ⟨h1, h2, h3, ⟨h4, h5⟩ | ⟨g, o, cur, e, hg, hc⟩⟩ := h
  · have := (List.getElem?_eq_some_iff.1 hi).1; omega
  · have c : ∀ r u, r < 4 → (pkVals p)[r]? = some u → W.cell? ⟨g, o + (i * 4 + r), none⟩ = some u := fun r u hr hu => by
      rw [cell_of_row _ _ _ _ _ _ hg]
      exact hc _ _ (by rw [pkCells_at l i r p hi hr]; exact hu)
    exact ⟨g, o, e, by simpa using c 0 _ (by omega) rfl, by simpa [Nat.add_assoc] using c 1 _ (by omega) rfl, by simpa [Nat.add_assoc] using c 2 _ (by omega) rfl, by simpa [Nat.add_assoc] using c 3 _ (by omega) rfl⟩
/-- Packets with their places. -/
def idxP (l : List Pk) : List (Nat × Pk) := (List.range l.length).zip l
theorem idxP_len (l : List Pk) : (idxP l).length = l.length := by simp [idxP]
theorem idxP_get {l : List Pk} {k : Nat} {p : Pk} (h : l[k]? = some p) : (idxP l)[k]? = some (k, p) := by
  have hk : k < l.length := (List.getElem?_eq_some_iff.1 h).1
  unfold idxP
  rw [List.getElem?_zip_eq_some]
  exact ⟨List.getElem?_range hk, h⟩
theorem take_snocP {M : List (Nat × Pk)} {k : Nat} {y : Nat × Pk} (h : M[k]? = some y) : M.take (k + 1) = M.take k ++ [y] := by
  rw [List.take_add_one, h]; rfl
def encP (x : Nat × Pk) : Array Value := #[.int .i64 (x.1 : Int), x.2.v]
/-- What a round over such an iterator keeps: slices, packets and yields that lay there, and the bytes of these packets. -/
def KpB (l : List Pk) (A B : World) : Prop := Stay 48 A B ∧ Stay 39 A B ∧ Stay 68 A B ∧ ((∀ p ∈ l, Dat 0 A p) → ∀ p ∈ l, Dat 0 B p)
theorem KpB.t {l : List Pk} {A B C : World} (h : KpB l A B) (k : KpB l B C) : KpB l A C := ⟨h.1.trans k.1, h.2.1.trans k.2.1, h.2.2.1.trans k.2.2.1, fun s => k.2.2.2 (h.2.2.2 s)⟩
theorem KpB.bel {l : List Pk} {A B : World} (h : Below A.heap.size A B) : KpB l A B := ⟨stay_below h, stay_below h, stay_below h, fun s p hp => (s p hp).on h⟩
theorem KpB.b {l : List Pk} (W : World) (i : Nat) (o o' : Obj) (h : W.heap[i]? = some o) (ho : o.isCells = false) : KpB l W (W.putObj i o') := by
  have s : ∀ T, Stay T W (W.putObj i o') := fun T k cs e => by
    by_cases hi : k = i
    · subst hi; rw [h] at e; injection e with e; subst e; cases ho
    · exact (World.putObj_heap_other hi).trans e
  refine ⟨s _, s _, s _, fun d p hp => ⟨⟨(d p hp).1.1, ?_⟩, (d p hp).2⟩⟩
  rcases (d p hp).1.2 with h0 | ⟨g, cap, cur, h1, h2, h3, h4⟩
  · exact .inl h0
  · exact .inr ⟨g, cap, cur, h1, h2, s _ _ _ h3, h4⟩
theorem grown_belowB {W W' : World} (h : Below W.heap.size W W') : W.grownBy W' none := ⟨h.os, h.tape, h.output, h.size, fun k hk _ => h.block k hk⟩
/-- How a yield goes. -/
def wentB (Kp : World → World → Prop) (W : World) (J Jx : List (Nat × Pk) → World → Prop) (xs : List (Nat × Pk)) (q : Bool) (W' : World) : Prop :=
  (q = true ∧ J xs W' ∧ Kp W W') ∨ (q = false ∧ Jx xs W')
set_option maxHeartbeats 8000000 in
set_option maxRecDepth 100000 in
theorem sall_in (n : Nat) (hn : 1 ≤ n) (i0 : Nat) (d : Nat) (a : Option Addr) (len c : Nat) (l : List Pk) (J Jx : List (Nat × Pk) → World → Prop)
    (hY : ∀ pre x W, (∃ r, pre ++ x :: r = idxP l) → J pre W → pre.length < l.length → YieldAt Fence.wide (n - 1) Try.prog i0 (encP x) W fun e W' => (e = .returned (.bool true) ∧ J (pre ++ [x]) W' ∧ KpB l W W') ∨ (e = .returned (.bool false) ∧ Jx (pre ++ [x]) W'))
    (W : World) (hJ : AbidesFrom W.heap.size J) (hbx : W.heap[d]? = some (.cells #[.slice a len c] 48 (0, 0))) (hS : PkRow W a len c l) (h0 : J [] W) :
    CallsIn Fence.wide n Try.prog 38 #[.func (.yield i0) #[] #[], .pointer (some ⟨d, 0, none⟩)] W fun e W' => (∃ v, e = .returned v) ∧
      ((∃ ys, ys = idxP l ∧ J ys W') ∨ (∃ pre, (∃ r, pre ++ r = idxP l) ∧ Jx pre W')) := by
  have HYY := aside hY
  have HJ := aside hJ
  have HS0 := aside hS
  have HB0 := aside hbx
  have H0 := aside h0
  have HLN := aside hS.1
  have hmx : (len : Int) ≤ 9223372036854775807 := by have h1 := hS.2.1; have h2 := hS.2.2.1; unfold maxLen at h2; omega
  have s0 := cell_one hbx
  clear hY hJ hS h0 hbx
  refine callsIn_of_wp Try.func38 rfl trivial ?_ rfl
  simp only [Try.ntmps38, List.size_toArray, List.length_cons, List.length_nil, Nat.reduceAdd, Nat.reduceSub, Array.replicate_succ, Array.replicate_zero, List.push_toArray, List.append_toArray, List.nil_append, List.cons_append]
  gi_wp2_with fail
  gi_loopw [7] (fun u wr => ∃ (k : Nat), u = .int .i64 (k : Int) ∧ k ≤ len ∧ Hid (J ((idxP l).take k) wr) ∧ Hid (PkRow wr a len c l)) (fun u _ => len - (intOf u).toNat)
  case atStart => exact ⟨0, rfl, Nat.zero_le _, H0.out, HS0.out⟩
  case round =>
    clear s0 HS0 H0 HB0
    obtain ⟨k, rfl, hk, HJ1, HS⟩ := hrel
    have hk0 : (0 : Int) ≤ (k : Int) := by omega
    by_cases hlk : (k : Int) < (len : Int)
    · obtain ⟨p, hp⟩ : ∃ p, l[k]? = some p := ⟨l[k]'(by have := HLN.out; omega), List.getElem?_eq_getElem _⟩
      have hy := idxP_get hp
      have TK := aside (take_snocP hy)
      have PX := aside (show (idxP l).take k ++ (k, p) :: (idxP l).drop (k + 1) = idxP l from by
        have h9 := List.take_append_drop (k + 1) (idxP l)
        rw [TK.out] at h9
        simpa using h9)
      have PL := aside (show ((idxP l).take k).length < l.length from by rw [List.length_take, idxP_len]; have := HLN.out; omega)
      obtain ⟨g, o, rfl, m0, m1, m2, m3⟩ := HS.out.at hp
      obtain ⟨num, frm, dst, da, dl, dc, L⟩ := p
      dsimp only at m0 m1 m2 m3
      clear hp hy
      obtain ⟨Z, hZ⟩ : ∃ Z, wr.alloc (.cells #[.int .i64 num, .int .i64 frm, .int .i64 dst, .slice da dl dc] 39) = Z := ⟨_, rfl⟩
      obtain ⟨q, hq⟩ : ∃ q, wr.heap.size = q := ⟨_, rfl⟩
      have BZ := aside (show Below wr.heap.size wr Z from by rw [← hZ]; exact bnew wr _)
      have KZ := aside (show Z.heap[q]? = some (.cells #[.int .i64 num, .int .i64 frm, .int .i64 dst, .slice da dl dc] 39 (0, 0)) from by rw [← hZ, ← hq]; exact heap_alloc_new wr _)
      have JY := aside (HJ.out ((idxP l).take k) wr _ none HJ1.out (grown_belowB BZ.out) (fun r e => by cases e))
      have SY := aside (HS.out.on BZ.out)
      obtain ⟨p0, p1, p2, p3⟩ := fourB KZ.out
      obtain ⟨fn, tmps, assign, body, hy, hR⟩ := HYY.out ((idxP l).take k) (k, ⟨num, frm, dst, da, dl, dc, L⟩) Z ⟨(idxP l).drop (k + 1), PX.out⟩ JY.out PL.out
      dsimp only [encP, Pk.v] at hy
      have hQ := hR.mono (R' := fun e W' => ∃ q : Bool, e = .returned (.bool q) ∧ wentB (KpB l) Z J Jx ((idxP l).take (k + 1)) q W') (fun e W' h => by
        rw [TK.out]
        rcases h with ⟨rfl, h1, h2⟩ | ⟨rfl, h1⟩
        · exact ⟨true, rfl, .inl ⟨rfl, h1, h2⟩⟩
        · exact ⟨false, rfl, .inr ⟨rfl, h1⟩⟩)
      have HQ := aside hQ
      clear hR hQ
      gi_wp2_with fail
      refine HQ.out.mono ?_
      rintro e W3 ⟨q9, rfl, hq9⟩
      clear hy HQ m0 m1 m2 m3 p0 p1 p2 p3 hZ hq
      rcases hq9 with ⟨rfl, hJ3, hk3⟩ | ⟨rfl, hJx3⟩
      · gi_wp2
        go_roundw
        case rel => exact ⟨k + 1, by first | rfl | go_num, by omega, hJ3, SY.out.stay hk3.2.1⟩
        case measure => simp [intOf] <;> omega
      · gi_wp2
        try simp only [Exit.inBlock, Exit.then]
        refine bodyPost_ret (results_none rfl _ _ _) rfl ?_
        exact ⟨⟨_, rfl⟩, .inr ⟨_, ⟨(idxP l).drop (k + 1), List.take_append_drop _ _⟩, hJx3⟩⟩
    · have HF := aside (show J (idxP l) wr from by have h9 := HJ1.out; rwa [List.take_of_length_le (by rw [idxP_len]; have := HLN.out; omega)] at h9)
      gi_wp2
      try simp only [Exit.noGoto]
      go_end0
      exact ⟨⟨_, rfl⟩, .inl (by first | exact ⟨_, rfl, HF.out⟩ | exact HF.out)⟩
theorem sall_seq {d : Nat} {a : Option Addr} {n c : Nat} {l : List Pk} {w : World} (hb : w.heap[d]? = some (.cells #[.slice a n c] 48 (0, 0))) (hS : PkRow w a n c l) : SeqY Try.prog 38 #[.pointer (some ⟨d, 0, none⟩)] encP (KpB l) (fun pre x _ => ∃ r, pre ++ x :: r = idxP l) (fun ys => ys = idxP l) (fun pre => ∃ r, pre ++ r = idxP l) l.length w :=
  fun m i0 J Jx W hW hJ hJx hY h0 => callsIn_wide.1 (sall_in (m + 1) (by omega) i0 d a n c l J Jx (fun pre x W1 hok hp hl => (hY pre x W1 hok hp hl).mono (fun _ _ h => h.2)) W (ownFrom_abides hJ) (blk_on hb hW) (hS.on hW) h0)
end Go.Proofs.Yteaaamhojiognaa

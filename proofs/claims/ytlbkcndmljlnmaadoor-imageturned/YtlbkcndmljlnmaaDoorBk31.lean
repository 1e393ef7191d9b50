/-
  Two stores that take, side by side; rows of entries that are swapped.
-/
import Derived.Test.YtlbkcndmljlnmaaDoorBk30
namespace Go.Proofs.YtlbkcndmljlnmaaDoor
open Go.ChangeShapes Go.WideShapes Go.ChangeAt Go.RowKit
set_option linter.unusedVariables false
section
/-- A list of whole numbers that came in. -/
def IntsIn (w : World) (a : Option Addr) (len cap : Nat) (z : Nat → Int) : Prop :=
  len ≤ cap ∧ cap ≤ maxLen ∧ (len = 0 ∨ ∃ b off, a = some ⟨b, off, none⟩ ∧ b < w.heap.size ∧ ∀ i, i < len → w.cell? ⟨b, off + i, none⟩ = some (.int .i64 (z i)))
variable {H : Type} {enc : TypeId × Value → H} {W : World}
set_option maxHeartbeats 1000000 in
theorem ints_open {fuel : Nat} {a : Option Addr} {len cap : Nat} {d : DataW H} {ps : List MemPlace}
    (hf : DataW.trod enc Tryd.prog W 0 (fun _ => true) true fuel 58 [.slice a len cap] = some (d, ps)) :
    ∃ T, IntsIn W a len cap T := by
  rcases Deep.open_slice Tryd.underlying58 hf with ⟨hcs, _⟩ | ⟨x, l, c, m, n, D, Pl, hcs, hb, hl, hm, hmm, hx, hel⟩
  · simp only [List.cons.injEq, Value.slice.injEq, and_true] at hcs
    obtain ⟨rfl, rfl, rfl⟩ := hcs
    exact ⟨fun _ => 0, Nat.le_refl _, Nat.zero_le _, .inl rfl⟩
  · simp only [List.cons.injEq, Value.slice.injEq, and_true] at hcs
    obtain ⟨rfl, rfl, rfl⟩ := hcs
    simp only [if_true] at hmm
    subst hmm
    rw [cellsInt] at hel
    have each : ∀ i, i < len → ∃ t : Int, W.cell? (x.add i) = some (.int .i64 t) := by
      intro i hi
      obtain ⟨cs', h1, h2⟩ := hel i (by omega)
      obtain ⟨_, hlen, hcell⟩ := World.cells?_some h1
      match cs', hlen with
      | [v0], _ =>
        obtain ⟨t, e0, _, _⟩ := DataW.trod_int Tryd.underlying3 h2
        simp only [List.cons.injEq, and_true] at e0
        subst e0
        have c0 := hcell 0 (by omega)
        rw [Deep.add_add] at c0
        exact ⟨t, by simpa using c0⟩
    by_cases h0 : len = 0
    · exact ⟨fun _ => 0, hl, hm, .inl h0⟩
    · obtain ⟨T, hT⟩ := Deep.choose_lt each
      have hc0 := hT 0 (by omega)
      obtain ⟨blk, off, spot⟩ := x
      have hspot : spot = none := by
        have := World.cell?_spot hc0
        simpa [Addr.add] using this
      subst hspot
      have hblk : blk < W.heap.size := by
        have := World.block_lt_of_cell? W _ hc0
        simpa [Addr.add] using this
      have hadd : ∀ j, (⟨blk, off, none⟩ : Addr).add j = ⟨blk, off + j, none⟩ := by intro j; unfold Addr.add; split <;> simp_all
      refine ⟨T, hl, hm, .inr ⟨blk, off, rfl, hblk, fun i hi => ?_⟩⟩
      have h5 := hT i hi
      simpa only [hadd] using h5
end
theorem own_slc {w : World} {B : Nat} {e : TypeId} {s : Nat} {v : Value} {n : Nat} {xs : List Value} (h : w.ownsRow B e s v n xs) : ∃ a c, v = .slice a n c ∧ n ≤ c ∧ c ≤ maxLen ∧ ((a = none ∧ n = 0 ∧ c = 0) ∨ ∃ g, a = some ⟨g, 0, none⟩ ∧ B ≤ g) := by
  rcases h.2 with ⟨rfl, rfl⟩ | ⟨g, cap, cur, rfl, hb, _, hn, hm, _⟩
  · exact ⟨none, 0, rfl, Nat.le_refl _, Nat.zero_le _, .inl ⟨rfl, rfl, rfl⟩⟩
  · exact ⟨_, cap, rfl, hn, hm, .inr ⟨g, rfl, hb⟩⟩
/-- Two entries of one key and one version are one. -/
def Ok2 (x y : En) : Prop := x.k = y.k → x.c = y.c → x.n = y.n → x = y
theorem Ok2.symm {x y : En} (h : Ok2 x y) : Ok2 y x := fun a b c => (h a.symm b.symm c.symm).symm
def NoTw (T : Nat → En) (i k : Nat) : Prop := (∀ p, p < i → ∀ q, q < p → Ok2 (T p) (T q)) ∧ ∀ q, q < k → Ok2 (T i) (T q)
theorem NoTw.nil (T : Nat → En) : NoTw T 0 0 := ⟨fun p h => absurd h (Nat.not_lt_zero _), fun q h => absurd h (Nat.not_lt_zero _)⟩
theorem NoTw.next {T : Nat → En} {i k : Nat} (h : NoTw T i k) (h2 : Ok2 (T i) (T k)) : NoTw T i (k + 1) :=
  ⟨h.1, fun q hq => by rcases Nat.lt_succ_iff_lt_or_eq.1 hq with h3 | rfl; exact h.2 q h3; exact h2⟩
theorem NoTw.row {T : Nat → En} {i : Nat} (h : NoTw T i i) : NoTw T (i + 1) 0 :=
  ⟨fun p hp q hq => by rcases Nat.lt_succ_iff_lt_or_eq.1 hp with h3 | rfl; exact h.1 p h3 q hq; exact h.2 q hq, fun q h => absurd h (Nat.not_lt_zero _)⟩
theorem NoTw.all {T : Nat → En} {n : Nat} (h : NoTw T n 0) (p q : Nat) (hp : p < n) (hq : q < n) : Ok2 (T p) (T q) := by
  rcases Nat.lt_trichotomy p q with h1 | rfl | h1
  · exact (h.1 q hq p h1).symm
  · exact fun _ _ _ => rfl
  · exact h.1 p hp q h1
theorem row_frozenE {w : World} {B g n cap : Nat} {xs : List Value} (h : w.ownsRow B 44 5 (.slice (some ⟨g, 0, none⟩) n cap) n xs) (j : Nat) : w.frozen? ⟨g, j, none⟩ = false := by
  rcases h.2 with ⟨h1, _⟩ | ⟨g', cap', cur, h1, h2, h3, h4⟩
  · cases h1
  · injection h1 with e1 e2 e3
    injection e1 with e1
    injection e1 with e1
    subst e1
    exact frozen_of_row _ _ j _ _ h3
theorem pre_succI {x : En} {q : Nat} {f : Nat → En} : ((∃ p, p < q ∧ x = f p) ∨ x = f q) ↔ ∃ p, p < q + 1 ∧ x = f p := by
  constructor
  · rintro (⟨p, h1, h2⟩ | h2)
    · exact ⟨p, by omega, h2⟩
    · exact ⟨q, by omega, h2⟩
  · rintro ⟨p, h1, h2⟩
    by_cases h3 : p = q
    · subst h3; exact .inr h2
    · exact .inl ⟨p, by omega, h2⟩
theorem swap_memI {l : List En} {q k : Nat} (hq : q < l.length) (hk : k < l.length) (x : En) : x ∈ (l.set q (nthE l k)).set k (nthE l q) ↔ x ∈ l := by
  have eq := nthE_get hq
  have ek := nthE_get hk
  rw [List.mem_iff_getElem?, List.mem_iff_getElem?]
  constructor
  · rintro ⟨i, hi⟩
    rw [List.getElem?_set] at hi
    by_cases h1 : k = i
    · rw [if_pos h1] at hi
      by_cases h2 : k < (l.set q (nthE l k)).length
      · rw [if_pos h2] at hi
        exact ⟨q, eq.trans hi⟩
      · rw [if_neg h2] at hi
        cases hi
    · rw [if_neg h1, List.getElem?_set] at hi
      by_cases h2 : q = i
      · rw [if_pos h2, if_pos hq] at hi
        exact ⟨k, ek.trans hi⟩
      · rw [if_neg h2] at hi
        exact ⟨i, hi⟩
  · rintro ⟨i, hi⟩
    by_cases h1 : i = q
    · subst h1
      refine ⟨k, ?_⟩
      rw [List.getElem?_set, if_pos rfl, if_pos (by rw [List.length_set]; exact hk), ← hi, eq]
    by_cases h2 : i = k
    · subst h2
      refine ⟨q, ?_⟩
      rw [List.getElem?_set, if_neg (fun e => h1 e), List.getElem?_set, if_pos rfl, if_pos hq, ← hi, ek]
    · exact ⟨i, by rw [List.getElem?_set, if_neg (fun e => h2 e.symm), List.getElem?_set, if_neg (fun e => h1 e.symm), hi]⟩
/-- Two stores, apart; what they hold. -/
structure TJ (w X : World) (sa ga ta sb gb tb : Nat) (nd : Int) (La : List En) (ca : Int) (Lb : List En) (cb : Int) : Prop where
  a : Sto X sa ga ta nd ca La
  b : Sto X sb gb tb nd cb Lb
  n1 : sa ≠ sb
  n2 : ga ≠ gb
  n3 : ta ≠ tb
  L : Lanes X
  below : Below w.heap.size w X
  six : SixB w.heap.size sa ga ta sb gb tb
variable {w X Y : World} {sa ga ta sb gb tb : Nat} {nd ca cb : Int} {La Lb : List En}
theorem TJ.on (h : TJ w X sa ga ta sb gb tb nd La ca Lb cb) (b : Below X.heap.size X Y) : TJ w Y sa ga ta sb gb tb nd La ca Lb cb := ⟨h.a.below b, h.b.below b, h.n1, h.n2, h.n3, h.L.keep b, bthen h.below b, h.six⟩
theorem TJ.turnA {c' : Int} {L' : List En} (h : TJ w X sa ga ta sb gb tb nd La ca Lb cb) (k : Keeps (Of sa ga ta) X Y) (L : Lanes Y) (s : Sto Y sa ga ta nd c' L') : TJ w Y sa ga ta sb gb tb nd L' c' Lb cb :=
  ⟨s, h.b.keep h.a k (fun e => h.n1 e.symm) (fun e => h.n2 e.symm) (fun e => h.n3 e.symm), h.n1, h.n2, h.n3, L, h.below.trans (belOf h.below.size h.six.1 k), h.six⟩
theorem TJ.turnB {c' : Int} {L' : List En} (h : TJ w X sa ga ta sb gb tb nd La ca Lb cb) (k : Keeps (Of sb gb tb) X Y) (L : Lanes Y) (s : Sto Y sb gb tb nd c' L') : TJ w Y sa ga ta sb gb tb nd La ca L' c' :=
  ⟨h.a.keep h.b k h.n1 h.n2 h.n3, s, h.n1, h.n2, h.n3, L, h.below.trans (belOf h.below.size h.six.2 k), h.six⟩
theorem takeAI {P : En → Prop} (e : En) (h : TJ w X sa ga ta sb gb tb nd La ca Lb cb) (hO : LdOk nd ca La) (hT : Took P La ca) :
    Calls Tryd.prog 20 #[.pointer (some ⟨sa, 0, none⟩), .agg #[.string e.k, .int .i64 e.c, .int .i64 e.n, .string e.v, .bool e.d]] X fun r Y => ∃ q g L' c', r = .returned (.tuple #[.bool q, .int .i64 g]) ∧ TJ w Y sa ga ta sb gb tb nd L' c' Lb cb ∧ Keeps (Of sa ga ta) X Y ∧ LdOk nd c' L' ∧ (g ≠ 80 → Took (fun x => P x ∨ x = e) L' c') := by
  refine (qtake e h.a h.L (by have := hO.len; omega)).mono ?_
  rintro r Y ⟨rfl, k, L, ⟨hs, s⟩ | ⟨hs, s⟩⟩
  · exact ⟨_, _, _, _, rfl, h.turnA k L s, k, hO, fun g => hT.pass e hs g⟩
  · exact ⟨_, _, _, _, rfl, h.turnA k L s, k, take_okI hO hs, fun _ => hT.take e hs⟩
theorem takeBI {P : En → Prop} (e : En) (h : TJ w X sa ga ta sb gb tb nd La ca Lb cb) (hO : LdOk nd cb Lb) (hT : Took P Lb cb) :
    Calls Tryd.prog 20 #[.pointer (some ⟨sb, 0, none⟩), .agg #[.string e.k, .int .i64 e.c, .int .i64 e.n, .string e.v, .bool e.d]] X fun r Y => ∃ q g L' c', r = .returned (.tuple #[.bool q, .int .i64 g]) ∧ TJ w Y sa ga ta sb gb tb nd La ca L' c' ∧ Keeps (Of sb gb tb) X Y ∧ LdOk nd c' L' ∧ (g ≠ 80 → Took (fun x => P x ∨ x = e) L' c') := by
  refine (qtake e h.b h.L (by have := hO.len; omega)).mono ?_
  rintro r Y ⟨rfl, k, L, ⟨hs, s⟩ | ⟨hs, s⟩⟩
  · exact ⟨_, _, _, _, rfl, h.turnB k L s, k, hO, fun g => hT.pass e hs g⟩
  · exact ⟨_, _, _, _, rfl, h.turnB k L s, k, take_okI hO hs, fun _ => hT.take e hs⟩
end Go.Proofs.YtlbkcndmljlnmaaDoor

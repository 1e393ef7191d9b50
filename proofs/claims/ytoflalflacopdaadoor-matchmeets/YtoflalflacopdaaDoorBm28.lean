/-
  countEntries, CheckParts, isOpening and Check, the code's.
  What a range comes to, plain; what is stored beside a store.
  heldIn.
  takeAll: entries taken one behind the other.
  Lacks, the code's.
  CheckParts, isOpening and Check, the code's.
  isOpening and Check, the code's.
  What is wrong with a part's entries: the document's own.
  What is wrong with one part, behind those ahead of it: the document's own.
  What is wrong with one part that has no fields but its own: the document's own (a Print).
  What is wrong with one part that has no fields but its own: the document's own (Items and Reply).
  CheckParts: the document's own.
  Check: the document's own.
-/
import Derived.Test.YtoflalflacopdaaDoorBm27
import Derived.Test.YtoflalflacopdaaDoorBm26
import Derived.Test.YtoflalflacopdaaDoorBm15
import Derived.Test.YtoflalflacopdaaDoorBm17
import Derived.Test.YtoflalflacopdaaDoorBm21
import Derived.Test.YtoflalflacopdaaDoorBm1
import Derived.Deep.CutBlock
import Derived.Deep.DeepCutAuto
namespace Go.Proofs.YtoflalflacopdaaDoor
open Go.RowKit
set_option linter.unusedVariables false
theorem set_in {w : World} {b : Nat} (k : Nat) (u : Value) {cs : Array Value} {t : TypeId} (h : w.heap[b]? = some (.cells cs t (0, 0))) : (w.setCell ⟨b, k, none⟩ u).heap[b]? = some (.cells (cs.setIfInBounds k u) t (0, 0)) := by
  simp only [World.setCell]
  rw [Array.getElem?_modify]
  simp [h]
theorem set_tri {w : World} {b : Nat} {x y z : Value} {t : TypeId} (h : w.heap[b]? = some (.cells #[x, y, z] t (0, 0))) (u v r : Value) : (((w.setCell ⟨b, 0, none⟩ u).setCell ⟨b, 1, none⟩ v).setCell ⟨b, 2, none⟩ r).heap[b]? = some (.cells #[u, v, r] t (0, 0)) := by
  have h1 := set_in 2 r (set_in 1 v (set_in 0 u h))
  simpa using h1
set_option maxHeartbeats 1600000 in
theorem count_any (a : Option Addr) (len cap : Nat) (P : Nat → Pm) (w : World) (h : PartsIn w a len cap P) (hT : totE P len ≤ 4611686018427387904) :
    Calls Tryd.prog 83 #[.slice a len cap] w fun e w' => e = .returned (.int .i64 (totE P len : Int)) ∧ Below w.heap.size w w' := by
  have HE := aside h
  have HT := aside hT
  obtain ⟨hlc, hcm, -⟩ := h
  have hmx : (len : Int) ≤ 9223372036854775807 := by unfold maxLen at hcm; omega
  clear hlc hcm hT
  go_enter Tryd.func83, Tryd.ntmps83
  go_wp2
  go_loopw [3, 8] (fun c i wr => ∃ j : Nat, c = .int .i64 (totE P j : Int) ∧ i = .int .i64 (j : Int) ∧ j ≤ len ∧ Below w.heap.size w wr) (fun c i _ => len - (intOf i).toNat)
  case atStart => exact ⟨0, rfl, rfl, Nat.zero_le _, Below.refl _ _⟩
  case round =>
    obtain ⟨j, rfl, rfl, hj, hB⟩ := hrel
    have HB := aside hB
    clear hB
    by_cases hlt : (j : Int) < (len : Int)
    · have hE := HE.out.keep HB.out
      rcases hE.2.2 with h0 | ⟨b, off, rfl, hb, hc⟩
      · omega
      obtain ⟨hat, hin⟩ := hc j (by omega)
      obtain ⟨p, hp⟩ : ∃ p, P j = p := ⟨_, rfl⟩
      have HP := aside hp
      rw [hp] at hat hin
      clear hp hc
      obtain ⟨kind, lo, hi, op, cnt, s0, s1, ea, el, ec, T⟩ := p
      obtain ⟨c0, c1, c2, c3, c4, c5, c6, c7⟩ := hat
      dsimp only at c0 c1 c2 c3 c4 c5 c6 c7
      have hj0 : (0 : Int) ≤ (j : Int) := by omega
      have hst : totE P (j + 1) = totE P j + el := by simp only [totE, HP.out]
      have HST := aside hst
      have hle : (totE P j : Int) + (el : Int) ≤ 4611686018427387904 := by have h1 := el_totE P (i := j) (n := len) (by omega); rw [HP.out] at h1; dsimp only at h1; have h2 := HT.out; omega
      have hw : IntKind.i64.wrap ((totE P j : Int) + (el : Int)) = (totE P (j + 1) : Int) := by simp only [IntKind.wrap_i64]; omega
      clear hst hle hin
      go_wp2
      go_roundw
      case rel => exact ⟨j + 1, by first | rfl | (rw [hw]), by go_num, by omega, HB.out.trans ((bnew wr _).mono HB.out.size)⟩
      case measure => simp [intOf]; omega
    · have hjl : j = len := by omega
      subst hjl
      go_wp2
      go_ret
      exact ⟨rfl, HB.out⟩
end Go.Proofs.YtoflalflacopdaaDoor
namespace Go.Proofs.YtoflalflacopdaaDoor
open Go.RowKit
set_option linter.unusedVariables false
/-- A row of entries as a list in memory. -/
theorem own_ents {w : World} {B : Nat} {v : Value} {l : List En} (h2 : w.ownsRow B 33 5 v l.length (entCells l)) (hk : KeysOk l) : ∃ a c, v = .slice a l.length c ∧ EntsIn w a l.length c (nthE l) := by
  obtain ⟨a, c, rfl, -, -, -⟩ := own_slice h2
  rcases h2.2 with ⟨h3, h4⟩ | ⟨g, cap, cur, h3, h4⟩
  · refine ⟨a, c, rfl, ?_⟩
    simp only [Value.slice.injEq] at h3
    obtain ⟨rfl, h6, rfl⟩ := h3
    rw [h4]
    exact ⟨by omega, by unfold maxLen; omega, .inl rfl⟩
  · simp only [Value.slice.injEq] at h3
    obtain ⟨rfl, -, rfl⟩ := h3
    obtain ⟨m1, m2⟩ := row_max h2
    have := ents_of_row h2 hk (o := 0) (m := l.length) (c := c) (by omega) m1 m2 (a := some ⟨g, 0, none⟩) (.inr (by simp))
    simp only [Nat.zero_add] at this
    exact ⟨_, _, rfl, this⟩
/-- A block of another kind is stored over: the store stays. -/
theorem Sto.set {w w' : World} {sb g tb : Nat} {nd ck : Int} {Ls : List En} (h : Sto w sb g tb nd ck Ls) {i : Nat} {cs : Array Value} {U : TypeId} (hi : w.heap[i]? = some (.cells cs U (0, 0))) (h1 : U ≠ 89) (h2 : U ≠ 140) (h3 : U ≠ 184) (h4 : U ≠ 135) (k : Keeps (fun x => x = i) w w') : Sto w' sb g tb nd ck Ls := by
  obtain ⟨T, n, hs, hH⟩ := h
  have hn := hs.not hi h1 h2 h3
  unfold Of at hn
  refine ⟨T, n, ⟨blk_keep hs.blk k (fun e => hn (.inl e.symm)), hs.cnt.keep k (fun b e => by cases e; exact fun e => hn (.inr (.inr e.symm))), hs.tree.keep k (fun e => hn (.inr (.inl e.symm))) (fun j cs' hj e => ?_)⟩, hH⟩
  subst e
  rw [hj] at hi
  simp only [Option.some.injEq, Obj.cells.injEq] at hi
  exact h4 hi.2.1.symm
end Go.Proofs.YtoflalflacopdaaDoor
namespace Go.Proofs.YtoflalflacopdaaDoor
open Go.RowKit
set_option linter.unusedVariables false
set_option maxHeartbeats 3200000 in
set_option maxRecDepth 100000 in
theorem collect_any {w : World} {lb : Array Value} {es : List En} (hs : SeqE w lb es) :
    Calls Tryd.prog 122 #[.func (.func 70) #[] lb] w fun r w' => ∃ v, r = .returned v ∧ w'.ownsRow w.heap.size 33 5 v es.length (entCells es) ∧ Below w.heap.size w w' := by
  have C := aside (appendSeq_any hs)
  clear hs
  go_enter Tryd.func122, Tryd.ntmps122
  go_wp2_with fail
  refine C.out.mono ?_
  rintro e w1 ⟨v, rfl, ho, b1⟩
  have HO := aside ho
  have B1 := aside b1
  clear ho b1 C
  go_wp2
  go_ret
  exact ⟨v, rfl, HO.out, B1.out⟩
set_option maxHeartbeats 3200000 in
set_option maxRecDepth 100000 in
theorem heldIn_any (lo hi : ByteArray) (op : Bool) {w : World} {sb g tb : Nat} {nd ck : Int} {Ls : List En} (h : Sto w sb g tb nd ck Ls) (hl : Ls.length ≤ 1000000) (hc : Rg.chk ⟨lo, hi, op⟩ = 0) :
    Calls Tryd.prog 113 #[.pointer (some ⟨sb, 0, none⟩), .agg #[.string lo, .string hi, .bool op]] w fun r w' => ∃ v, r = .returned v ∧ w'.ownsRow w.heap.size 33 5 v (thruL lo hi op true Ls).length (entCells (thruL lo hi op true Ls)) ∧ Below w.heap.size w w' := by
  have B0 := aside (bnew w (.cells #[.string lo, .string hi, .bool op] 24))
  have K0 := aside (heap_alloc_new w (.cells #[.string lo, .string hi, .bool op] 24))
  have CA := aside (qall lo hi op (h.below B0.out) hl)
  rw [hc] at CA
  clear h hl hc
  obtain ⟨r0, r1, r2⟩ := box3r K0.out
  go_enter Tryd.func113, Tryd.ntmps113
  go_wp2_with fail
  refine CA.out.mono ?_
  rintro e w1 ⟨b1, ⟨h0, -⟩ | ⟨-, lb, rfl, hs⟩⟩
  · exact absurd rfl h0
  have C2 := aside (collect_any hs)
  have B1 := aside (bthen B0.out b1)
  clear b1 hs CA B0 K0 r0 r1 r2
  go_wp2_with fail
  refine C2.out.mono ?_
  rintro e w2 ⟨v, rfl, ho, b2⟩
  have HO := aside (own_low ho B1.out.size)
  have B2 := aside (bthen B1.out b2)
  clear ho b2 C2
  go_wp2
  go_ret
  exact ⟨v, rfl, HO.out, B2.out⟩
end Go.Proofs.YtoflalflacopdaaDoor
namespace Go.Proofs.YtoflalflacopdaaDoor
open Go.RowKit
set_option linter.unusedVariables false
theorem two_h {w : World} {i : Nat} {a b : Value} {T : TypeId} (h : w.heap[i]? = some (.cells #[a, b] T (0, 0))) : w.cell? ⟨i, 0, none⟩ = some a ∧ w.cell? ⟨i, 1, none⟩ = some b := ⟨by simp [World.cell?, h], by simp [World.cell?, h]⟩
theorem Lanes.apart2 {w : World} (L : Lanes w) : ∀ (cs : Array Value) (T : TypeId), w.heap[0]? = some (.cells cs T (0, 0)) → cs.size = 2 → False := fun cs T h hs => by
  have h5 := L.c5
  simp only [World.cell?, h] at h5
  have : cs[5]? = none := by rw [Array.getElem?_eq_none_iff]; omega
  simp [this] at h5
/-- Texts lie in no block of a store that its calls turn. -/
theorem Sto.str {w : World} {sb g tb : Nat} {nd ck : Int} {Ls : List En} (h : Sto w sb g tb nd ck Ls) {b k : Nat} {s : ByteArray} (hc : w.cell? ⟨b, k, none⟩ = some (.string s)) : ¬ Of sb g tb b := by
  obtain ⟨T, n, hs, -⟩ := h
  obtain ⟨p, ht, -⟩ := hs.tree
  unfold TObjE at ht
  have hb := hs.blk
  have hg := hs.cnt g rfl
  rintro (rfl | rfl | rfl)
  · simp only [World.cell?, hb] at hc
    rcases k with _ | _ | _ | _ | k <;> simp at hc
  · simp only [World.cell?, ht] at hc
    rcases k with _ | _ | _ | _ | _ | k <;> simp [jvE] at hc
  · simp only [World.cell?, hg] at hc
    rcases k with _ | k <;> simp at hc
theorem EntsIn.keepS {w w' : World} {a : Option Addr} {len cap : Nat} {T : Nat → En} {sb g tb : Nat} {nd ck : Int} {Ls : List En} (h : EntsIn w a len cap T) (hs : Sto w sb g tb nd ck Ls) (k : Keeps (Of sb g tb) w w') : EntsIn w' a len cap T := by
  refine ⟨h.1, h.2.1, ?_⟩
  rcases h.2.2 with h0 | ⟨b, off, rfl, hb, hc⟩
  · exact .inl h0
  · refine .inr ⟨b, off, rfl, Nat.lt_of_lt_of_le hb k.size, fun i hi => ?_⟩
    obtain ⟨⟨c0, c1, c2, c3, c4⟩, hk⟩ := hc i hi
    have hn := hs.str c0
    exact ⟨⟨(k.cell hb hn).trans c0, (k.cell hb hn).trans c1, (k.cell hb hn).trans c2, (k.cell hb hn).trans c3, (k.cell hb hn).trans c4⟩, hk⟩
set_option maxHeartbeats 6400000 in
set_option maxRecDepth 100000 in
theorem takeAll_any (a : Option Addr) (len cap : Nat) (T : Nat → En) {w : World} {sb g tb : Nat} {nd ck : Int} {Ls : List En} (h : Sto w sb g tb nd ck Ls) (L : Lanes w) (hl : Ls.length ≤ 256) (hE : EntsIn w a len cap T) (hn : len ≤ 1000) :
    Calls Tryd.prog 86 #[.pointer (some ⟨sb, 0, none⟩), .slice a len cap] w fun r w' => r = .returned (.agg #[.int .i64 ((tkAll ⟨Ls, ck, 0, 0⟩ (firstE T len)).n : Int), .int .i64 ((tkAll ⟨Ls, ck, 0, 0⟩ (firstE T len)).f : Int)]) ∧ Sto w' sb g tb nd (tkAll ⟨Ls, ck, 0, 0⟩ (firstE T len)).c (tkAll ⟨Ls, ck, 0, 0⟩ (firstE T len)).l ∧ Keeps (Of sb g tb) w w' ∧ Lanes w' := by
  have HE := aside hE
  have HN := aside hn
  have hmx : (len : Int) ≤ 9223372036854775807 := by omega
  have HTL := aside (fun j => tkAll_len (s := ⟨Ls, ck, 0, 0⟩) hl T j)
  have HTN := aside (fun j => tkAll_n (s := ⟨Ls, ck, 0, 0⟩) T j)
  have HTS := aside (fun j => tkAll_succ ⟨Ls, ck, 0, 0⟩ T j)
  have B0 := aside (bthen (bnew w (.cells #[.int .i64 0, .int .i64 0] 69)) (bnew _ (.cells #[.int .i64 0, .int .i64 0] 69)))
  have Z0 := aside (blk_on (heap_alloc_new w (.cells #[.int .i64 0, .int .i64 0] 69)) (bnew _ (.cells #[.int .i64 0, .int .i64 0] 69)))
  have Z1 := aside (heap_alloc_new (w.alloc (.cells #[.int .i64 0, .int .i64 0] 69)) (.cells #[.int .i64 0, .int .i64 0] 69))
  rw [World.size_alloc] at Z1
  have S0 := aside (h.below B0.out)
  have L0 := aside (L.keep B0.out)
  obtain ⟨rb, hrb⟩ : ∃ rb, w.heap.size = rb := ⟨_, rfl⟩
  obtain ⟨hb, hhb⟩ : ∃ hb, rb + 1 = hb := ⟨_, rfl⟩
  rw [hrb] at Z0 Z1
  rw [hhb] at Z1
  have HLT := aside (show w.heap.size ≤ rb ∧ rb < hb ∧ w.heap.size < hb from by omega)
  have HAP := aside (show w.heap.size ≤ rb from by omega)
  have HES := aside (show ∀ W, Keeps (Of sb g tb) w W → EntsIn W a len cap T from fun W k => hE.keepS h k)
  obtain ⟨w0, hw0⟩ : ∃ w0, (w.alloc (.cells #[.int .i64 0, .int .i64 0] 69)).alloc (.cells #[.int .i64 0, .int .i64 0] 69) = w0 := ⟨_, rfl⟩
  rw [hw0] at B0 Z0 Z1 S0 L0
  clear hE hn h L hl
  go_enter Tryd.func86, Tryd.ntmps86
  go_wp2
  go_loopw [12] (fun i wr => ∃ j : Nat, i = .int .i64 (j : Int) ∧ j ≤ len ∧ Sto wr sb g tb nd (tkAll ⟨Ls, ck, 0, 0⟩ (firstE T j)).c (tkAll ⟨Ls, ck, 0, 0⟩ (firstE T j)).l ∧ Lanes wr ∧ wr.heap[hb]? = some (.cells #[.int .i64 ((tkAll ⟨Ls, ck, 0, 0⟩ (firstE T j)).n : Int), .int .i64 ((tkAll ⟨Ls, ck, 0, 0⟩ (firstE T j)).f : Int)] 69 (0, 0)) ∧ wr.heap[rb]? = some (.cells #[.int .i64 0, .int .i64 0] 69 (0, 0)) ∧ Keeps (Of sb g tb) w wr) (fun i _ => len - (intOf i).toNat)
  case atStart => exact ⟨0, rfl, Nat.zero_le _, S0.out, L0.out, Z1.out, Z0.out, Keeps.of_below B0.out _⟩
  case round =>
    obtain ⟨j, rfl, hj, hS, hL, hH, hZ, hK⟩ := hrel
    clear S0 L0 Z0 Z1 B0
    have h1 := HTL.out j
    have h2 := HTN.out j
    have h3 := HTS.out j
    obtain ⟨s, hs⟩ : ∃ s, tkAll ⟨Ls, ck, 0, 0⟩ (firstE T j) = s := ⟨_, rfl⟩
    have HSJ := aside hs
    rw [hs] at hS hH h1 h2 h3
    obtain ⟨Lj, cj, n, f⟩ := s
    simp only [Nat.zero_add] at h2
    have HST := aside h3
    have HS1 := aside hS
    have HL1 := aside hL
    have HH1 := aside hH
    have HZ1 := aside hZ
    have HK1 := aside hK
    have HLJ := aside (show Lj.length ≤ 1000000 from by have := HN.out; first | omega | (dsimp only at h1; omega))
    have HNF := aside (show n ≤ 1000 ∧ f ≤ 1000 from by have := HN.out; first | omega | (dsimp only at h2; omega))
    clear hS hL hH hZ hK h1 h2 h3 hs
    by_cases hlt : (j : Int) < (len : Int)
    · have hj0 : (0 : Int) ≤ (j : Int) := by omega
      have eA := HES.out wr HK1.out
      rcases eA.2.2 with h0 | ⟨b, off, rfl, -, hc⟩
      · omega
      obtain ⟨⟨c0, c1, c2, c3, c4⟩, -⟩ := hc j (by omega)
      obtain ⟨t, ht⟩ : ∃ t, T j = t := ⟨_, rfl⟩
      rw [ht] at c0 c1 c2 c3 c4
      rw [ht] at HST
      have BN := bnew wr (.cells #[.string t.k, .int .i64 t.c, .int .i64 t.n, .string t.v, .bool t.d] 33)
      have C := aside (qtake t (HS1.out.below BN) (HL1.out.keep BN) HLJ.out)
      have HS2 := aside (HS1.out.below BN)
      have HH2 := aside (blk_on HH1.out BN)
      have HZ2 := aside (blk_on HZ1.out BN)
      have HK2 := aside (HK1.out.alloc (.cells #[.string t.k, .int .i64 t.c, .int .i64 t.n, .string t.v, .bool t.d] 33))
      obtain ⟨q, hq⟩ : ∃ q, tkSay t Lj = q := ⟨_, rfl⟩
      have HQ := aside hq
      dsimp only at C
      rw [hq] at C
      obtain ⟨q1, q2⟩ := q
      dsimp only at C
      clear hc eA ht hq BN HS1 HL1 HH1 HZ1 HK1
      go_wp2_with fail
      refine C.out.mono ?_
      rintro e w4 ⟨rfl, k4, l4, hcase⟩
      have L4 := aside l4
      have HB4 := aside (blk_keep HH2.out k4 (HS2.out.not HH2.out (by decide) (by decide) (by decide)))
      have HZ4 := aside (blk_keep HZ2.out k4 (HS2.out.not HZ2.out (by decide) (by decide) (by decide)))
      have K4 := aside (HK2.out.trans k4)
      clear l4 k4 HH2 HZ2 HK2 C c0 c1 c2 c3 c4 HS2
      rcases hcase with ⟨e2, s4⟩ | ⟨e2, s4⟩
      · subst e2
        have S4 := aside s4
        clear s4
        by_cases h80 : q1 = 80
        · subst h80
          have HNX := aside (show tkStep ⟨Lj, cj, n, f⟩ t = ⟨Lj, cj, n, f + 1⟩ from by unfold tkStep; dsimp only; rw [HQ.out, if_neg (by simp), if_pos rfl])
          obtain ⟨z0, z1⟩ := two_h HB4.out
          have y0 := frozen_of_row _ _ 1 _ _ HB4.out
          have KF := aside ((Keeps.refl (fun x => x = hb) w4).setCell (p := ⟨hb, 1, none⟩) (fun _ => rfl) (.int .i64 (((f + 1 : Nat)) : Int)))
          have S5 := aside (S4.out.set HB4.out (by decide) (by decide) (by decide) (by decide) KF.out)
          have L5 := aside (L4.out.keeps KF.out (fun e => by have h9 := HLT.out; omega))
          have HB5 := set_in 1 (.int .i64 (((f + 1 : Nat)) : Int)) HB4.out
          simp only [List.setIfInBounds_toArray, List.set_cons_zero, List.set_cons_succ] at HB5
          have HB6 := aside HB5
          have HZ5 := aside (show (w4.setCell ⟨hb, 1, none⟩ (.int .i64 (((f + 1 : Nat)) : Int))).heap[rb]? = some (.cells #[.int .i64 0, .int .i64 0] 69 (0, 0)) from by rw [heap_setCell_other _ _ _ _ (by have h9 := HLT.out; simp; omega)]; exact HZ4.out)
          have K5 := aside (K4.out.setCell (p := ⟨hb, 1, none⟩) (fun hh => absurd hh (by have h9 := HLT.out; simp; omega)) (.int .i64 (((f + 1 : Nat)) : Int)))
          have hwr2 : IntKind.i64.wrap ((f : Int) + 1) = (((f + 1 : Nat)) : Int) := by rw [IntKind.wrap_i64]; push_cast; have := HNF.out; omega
          clear HB5 KF
          go_wp2
          go_roundw
          case rel => exact ⟨j + 1, by go_num, by omega, by rw [HST.out, HNX.out]; exact S5.out, L5.out, by rw [HST.out, HNX.out]; exact HB6.out, HZ5.out, K5.out⟩
          case measure => simp [intOf]; omega
        · have hb80 : (q1 == 80) = false := by simpa using h80
          have HNX := aside (show tkStep ⟨Lj, cj, n, f⟩ t = ⟨Lj, cj, n, f⟩ from by unfold tkStep; dsimp only; rw [HQ.out, if_neg (by simp), if_neg (by simpa using h80)])
          go_wp2
          go_roundw
          case rel => exact ⟨j + 1, by go_num, by omega, by rw [HST.out, HNX.out]; exact S4.out, L4.out, by rw [HST.out, HNX.out]; exact HB4.out, HZ4.out, K4.out⟩
          case measure => simp [intOf]; omega
      · subst e2
        have S4 := aside s4
        clear s4
        have HNX := aside (show tkStep ⟨Lj, cj, n, f⟩ t = ⟨insE t Lj, ckm cj t.c, n + 1, f⟩ from by unfold tkStep; dsimp only; rw [HQ.out, if_pos rfl])
        obtain ⟨z0, z1⟩ := two_h HB4.out
        have y0 := frozen_of_row _ _ 0 _ _ HB4.out
        have KF := aside ((Keeps.refl (fun x => x = hb) w4).setCell (p := ⟨hb, 0, none⟩) (fun _ => rfl) (.int .i64 (((n + 1 : Nat)) : Int)))
        have S5 := aside (S4.out.set HB4.out (by decide) (by decide) (by decide) (by decide) KF.out)
        have L5 := aside (L4.out.keeps KF.out (fun e => by have h9 := HLT.out; omega))
        have HB5 := set_in 0 (.int .i64 (((n + 1 : Nat)) : Int)) HB4.out
        simp only [List.setIfInBounds_toArray, List.set_cons_zero] at HB5
        have HB6 := aside HB5
        have HZ5 := aside (show (w4.setCell ⟨hb, 0, none⟩ (.int .i64 (((n + 1 : Nat)) : Int))).heap[rb]? = some (.cells #[.int .i64 0, .int .i64 0] 69 (0, 0)) from by rw [heap_setCell_other _ _ _ _ (by have h9 := HLT.out; simp; omega)]; exact HZ4.out)
        have K5 := aside (K4.out.setCell (p := ⟨hb, 0, none⟩) (fun hh => absurd hh (by have h9 := HLT.out; simp; omega)) (.int .i64 (((n + 1 : Nat)) : Int)))
        have hwr2 : IntKind.i64.wrap ((n : Int) + 1) = (((n + 1 : Nat)) : Int) := by rw [IntKind.wrap_i64]; push_cast; have := HNF.out; omega
        clear HB5 KF
        go_wp2
        go_roundw
        case rel => exact ⟨j + 1, by go_num, by omega, by rw [HST.out, HNX.out]; exact S5.out, L5.out, by rw [HST.out, HNX.out]; exact HB6.out, HZ5.out, K5.out⟩
        case measure => simp [intOf]; omega
    · have hjl : j = len := by omega
      subst hjl
      obtain ⟨h0, h1⟩ := two_h HH1.out
      obtain ⟨z0, z1⟩ := two_h HZ1.out
      have y0 := frozen_of_row _ _ 0 _ _ HZ1.out
      have y1 := frozen_of_row _ _ 1 _ _ HZ1.out
      have KF := aside (((Keeps.refl (fun x => x = rb) wr).setCell (p := ⟨rb, 0, none⟩) (fun _ => rfl) (.int .i64 (n : Int))).setCell (p := ⟨rb, 1, none⟩) (fun _ => rfl) (.int .i64 (f : Int)))
      have SF := aside (HS1.out.set HZ1.out (by decide) (by decide) (by decide) (by decide) KF.out)
      have LF := aside (HL1.out.keeps KF.out (fun e => by have h9 := HL1.out.apart2; have h8 := HZ1.out; subst e; exact h9 _ _ h8 rfl))
      have KW := aside ((HK1.out.setCell (p := ⟨rb, 0, none⟩) (fun hh => absurd hh (by have h9 := HLT.out; simp; omega)) (.int .i64 (n : Int))).setCell (p := ⟨rb, 1, none⟩) (fun hh => absurd hh (by have h9 := HLT.out; simp; omega)) (.int .i64 (f : Int)))
      have KR := set_in 1 (.int .i64 (f : Int)) (set_in 0 (.int .i64 (n : Int)) HZ1.out)
      simp only [List.setIfInBounds_toArray, List.set_cons_zero, List.set_cons_succ] at KR
      have HKR := aside KR
      clear KR KF
      go_wp2
      obtain ⟨r0, r1⟩ := two_h HKR.out
      exact bodyPost_ret (v := .agg #[.int .i64 (n : Int), .int .i64 (f : Int)]) (by simp [results, Tryd.results86, go_sem, r0, r1]) rfl ⟨by rw [HSJ.out], by rw [HSJ.out]; exact SF.out, KW.out, LF.out⟩
end Go.Proofs.YtoflalflacopdaaDoor
namespace Go.Proofs.YtoflalflacopdaaDoor
open Go.RowKit Go.Shelf
set_option linter.unusedVariables false
attribute [local go_sem] Oper.semAt_some
/-- What the second lacks of the first, of the pairs so far. -/
def lkP (l : List (En × En)) : List En := (l.filter (fun p => En.newer p.1 p.2)).map (fun p => p.1)
theorem lkP_snoc (l : List (En × En)) (p : En × En) : lkP (l ++ [p]) = lkP l ++ (if En.newer p.1 p.2 then [p.1] else []) := by
  unfold lkP
  rw [List.filter_append, List.map_append]
  congr 1
  cases h : En.newer p.1 p.2 <;> simp [h]
theorem lkP_len (l : List (En × En)) : (lkP l).length ≤ l.length := by unfold lkP; rw [List.length_map]; exact List.length_filter_le _ _
theorem lkP_prs (a b : List En) : lkP (prs a b) = lkL a b := rfl
set_option maxHeartbeats 8000000 in
set_option maxRecDepth 100000 in
theorem mlack_any (a : Option Addr) (la ca : Nat) (A : Nat → En) (b : Option Addr) (lb cb : Nat) (B : Nat → En) (w : World) (hA : EntsIn w a la ca A) (hB : EntsIn w b lb cb B) (hl : la + lb ≤ 2147483648) :
    Calls Tryd.prog 112 #[.slice a la ca, .slice b lb cb] w fun r w' => Says w (ck2 A la B lb) (outL (ck2 A la B lb) (lkP (prs (firstE A la) (firstE B lb)))) r w' := by
  obtain ⟨q, hq⟩ : ∃ q, ck2 A la B lb = q := ⟨_, rfl⟩
  have CK := aside (mchk2_any a la ca A b lb cb B w hA hB)
  rw [hq] at CK ⊢
  have HA := aside hA
  have HBB := aside hB
  have HL := aside hl
  clear hA hB hl hq
  by_cases h0 : q = 0
  · subst h0
    rw [outL_ok _ rfl]
    refine (callsIn_wide (n := 5)).1 ?_
    refine callsIn_of_wp_marks Tryd.func112 rfl trivial ?_ rfl
    simp only [Tryd.ntmps112, List.size_toArray, List.length_cons, List.length_nil, Nat.reduceAdd, Nat.reduceSub, Array.replicate_succ, Array.replicate_zero, List.push_toArray, List.append_toArray, List.nil_append, List.cons_append]
    gi_wp2_with fail
    refine ⟨trivial, ?_⟩
    refine (callsIn_wide.2 CK.out).mono ?_
    rintro e w1 ⟨rfl, b1⟩
    have B1 := aside b1
    clear b1 CK
    gi_wp2_with fail
    refine ⟨trivial, ?_⟩
    refine (callsIn_wide.2 (side_any _ _ _ _ _ _ _)).mono ?_
    rintro e w2 ⟨rfl, rfl⟩
    gi_wp2_with fail
    have B2 := aside (bthen B1.out (bnew w1 (.cells #[.slice none 0 0] 22)))
    have KV := aside (heap_alloc_new w1 (.cells #[.slice none 0 0] 22))
    have SD2 := aside (side_sd (HA.out.keep B2.out) (HBB.out.keep B2.out))
    have B3 := aside (bthen B2.out (bthen (bnew (w1.alloc (.cells #[.slice none 0 0] 22)) (.cells #[.slice a la ca] 22)) (bnew _ (.cells #[.slice b lb cb] 22))))
    have KV3 := aside (blk_on KV.out (bthen (bnew (w1.alloc (.cells #[.slice none 0 0] 22)) (.cells #[.slice a la ca] 22)) (bnew _ (.cells #[.slice b lb cb] 22))))
    obtain ⟨vb, hvb⟩ : ∃ vb, w1.heap.size = vb := ⟨_, rfl⟩
    obtain ⟨ba, hba⟩ : ∃ ba, (w1.alloc (.cells #[.slice none 0 0] 22)).heap.size = ba := ⟨_, rfl⟩
    have hbv : ba = vb + 1 := by rw [← hba, ← hvb]; simp
    have HVB := aside (show w.heap.size ≤ vb from by rw [← hvb]; exact B1.out.size)
    rw [World.size_alloc] at hba
    rw [World.size_alloc, hba] at SD2
    rw [hba]
    rw [hvb] at KV3 ⊢
    clear KV hvb hba B1
    generalize ((w1.alloc (.cells #[.slice none 0 0] 22)).alloc (.cells #[.slice a la ca] 22)).alloc (.cells #[.slice b lb cb] 22) = V at *
    have I0 := aside (show LpC w vb 22 33 5 (lkP (([] : List (En × En)))).length (entCells (lkP (([] : List (En × En))))) ba (ba + 1) a la ca A b lb cb B V from ⟨⟨.slice none 0 0, KV3.out, ⟨rfl, .inl ⟨rfl, rfl⟩⟩⟩, B3.out, SD2.out⟩)
    have HVV := aside (show w.heap.size ≤ V.heap.size from B3.out.size)
    have HNE := aside (show ba ≠ vb ∧ ba + 1 ≠ vb from by omega)
    clear KV3 B3 B2 hbv
    have ownI : OwnFrom V.heap.size (fun (pre : List (En × En)) X => LpC w vb 22 33 5 (lkP (pre)).length (entCells (lkP (pre))) ba (ba + 1) a la ca A b lb cb B X) := fun s A Y row hs hg hr => hs.own HVV.out hg hr
    refine rangeO rfl (enters_of Tryd.func123 (by kernel_rfl) rfl) (side_seq SD2.out) KpS.t (fun W l o o' _ h ho => KpS.b W l o o' h ho) (Below.refl _ _) (fun _ => rfl)
      (fun (pre : List (En × En)) X => LpC w vb 22 33 5 (lkP (pre)).length (entCells (lkP (pre))) ba (ba + 1) a la ca A b lb cb B X) (fun _ _ _ => False) ownI (fun _ _ _ _ _ h => h.elim) I0.out
      (fun x a' X => ∃ eb : Nat, a' = ⟨#[.slice a la ca, .slice b lb cb, undef, undef, .slice none 0 0, .int .i64 0, .int .i64 0, .pointer (some ⟨vb, 0, none⟩), .pointer (some ⟨eb, 0, none⟩), .pointer (some ⟨eb + 1, 0, none⟩), .slice a la ca, .slice b lb cb, .int .i64 0, .int .i64 0, .bool false, undef, .slice a la ca, .slice b lb cb, .func (.func 123) #[] #[.pointer (some ⟨ba, 0, none⟩), .pointer (some ⟨ba + 1, 0, none⟩)], .agg #[.string x.1.k, .int .i64 x.1.c, .int .i64 x.1.n, .string x.1.v, .bool x.1.d], .agg #[.string x.2.k, .int .i64 x.2.c, .int .i64 x.2.n, .string x.2.v, .bool x.2.d], undef, undef, undef, undef, undef, undef, undef, undef], []⟩ ∧ X.heap[eb]? = some (.cells #[.string x.1.k, .int .i64 x.1.c, .int .i64 x.1.n, .string x.1.v, .bool x.1.d] 33 (0, 0)) ∧ X.heap[eb + 1]? = some (.cells #[.string x.2.k, .int .i64 x.2.c, .int .i64 x.2.n, .string x.2.v, .bool x.2.d] 33 (0, 0)))
      (fun x a' _ A Y row hs hg hr => by
        obtain ⟨eb, h1, h2, h3⟩ := hs
        exact ⟨eb, h1, cells_ownM h2 hg (fun r e => (hr r e).2), cells_ownM h3 hg (fun r e => (hr r e).2)⟩) ?assign ?body ?done ?stop
    case assign =>
      intro l' pre x X K hi hK
      dsimp only [encP]
      gi_wp2
      have bb := bthen (bnew X (.cells #[.string x.1.k, .int .i64 x.1.c, .int .i64 x.1.n, .string x.1.v, .bool x.1.d] 33)) (bnew _ (.cells #[.string x.2.k, .int .i64 x.2.c, .int .i64 x.2.n, .string x.2.v, .bool x.2.d] 33))
      have k2 := heap_alloc_new (X.alloc (.cells #[.string x.1.k, .int .i64 x.1.c, .int .i64 x.1.n, .string x.1.v, .bool x.1.d] 33)) (.cells #[.string x.2.k, .int .i64 x.2.c, .int .i64 x.2.n, .string x.2.v, .bool x.2.d] 33)
      rw [World.size_alloc] at k2
      exact hK _ _ (kf_below bb) (fun s => s.keep bb) (hi.keep bb) ⟨X.heap.size, rfl, blk_on (heap_alloc_new X _) (bnew _ _), k2⟩
    case body =>
      rintro l' pre ⟨x, y⟩ a' X hlp ⟨eb, rfl, he, hf⟩ hlen
      dsimp only at he hf ⊢
      have HLP := aside hlp
      have HE := aside he
      have HF := aside hf
      have HLN := aside (show (lkP (pre)).length ≤ 2147483648 from by have h1 := prs_len (firstE A la) (firstE B lb); rw [firstE_len, firstE_len] at h1; have h2 := HL.out; have h3 : (lkP (pre)).length ≤ pre.length := lkP_len pre; omega)
      clear hlp he hf hlen
      obtain ⟨⟨e0, e1, e2, e3, e4⟩, -⟩ := box5 HE.out
      obtain ⟨⟨f0, f1, f2, f3, f4⟩, -⟩ := box5 HF.out
      cases hq : En.newer x y
      · have CN := aside (fun W => newer_en x y W hq)
        have HSN := aside (show lkP (pre ++ [(x, y)]) = lkP pre from by rw [lkP_snoc]; simp [hq])
        clear hq
        gi_wp2_with fail
        refine ⟨trivial, ?_⟩
        refine (CallsIn.inRound l' (callsIn_wide.2 (CN.out _))).mono ?_
        rintro e X1 ⟨rfl, b1⟩
        have BX := aside b1
        clear b1 e0 e1 e2 e3 e4 f0 f1 f2 f3 f4
        gi_wp2
        exact ⟨kf_below BX.out, fun s => s.keep BX.out, by dsimp only; rw [HSN.out]; exact HLP.out.keep BX.out⟩
      · have CN := aside (fun W => newer_en x y W hq)
        have HSN := aside (show lkP (pre ++ [(x, y)]) = lkP pre ++ [x] from by rw [lkP_snoc]; simp [hq])
        clear hq
        gi_wp2_with fail
        refine ⟨trivial, ?_⟩
        refine (CallsIn.inRound l' (callsIn_wide.2 (CN.out _))).mono ?_
        rintro e X1 ⟨rfl, b1⟩
        have BX := aside b1
        replace HLP := aside (HLP.out.keep b1)
        replace HE := aside (blk_on HE.out b1)
        clear b1 e0 e1 e2 e3 e4 f0 f1 f2 f3 f4 HF CN
        obtain ⟨⟨e0, e1, e2, e3, e4⟩, -⟩ := box5 HE.out
        obtain ⟨v, hv, ho⟩ := HLP.out.lst.ex
        obtain ⟨i0, hi0, hz0, hz1, hz2⟩ := info_parts infoEnt
        have v0 := cell_one hv
        have HV := aside hv
        have HO := aside ho
        have HI := aside hi0
        have HBX := aside HLP.out.below
        clear hv ho hi0
        gi_wp2_with (gi_at_builtin; go_loud (refine wpListIn_append_own _ rfl _ _ _ rfl w.heap.size 33 i0 (.agg #[.string ⟨#[]⟩, .int .i64 0, .int .i64 0, .string ⟨#[]⟩, .bool false]) 5 56 Tryd.underlying22 HI.out hz0 hz1 hz2 rfl (by decide) v (lkP pre).length (entCells (lkP pre)) (by rfl) (HO.out.alloc _) ⟨X1.heap.size, 0, none⟩ 1 1 (entVals x) (by rfl) (by rfl) (World.news_of_block (cs := #[.string x.k, .int .i64 x.c, .int .i64 x.n, .string x.v, .bool x.d]) (t := 33) (fr := (0, 0)) (heap_alloc_new X1 _)) (by intro u hu; exact entCells_one [x] u (by simpa [entCells] using hu)) (by have := HLN.out; unfold maxLen; omega) (by have := HLN.out; omega) (by have := HBX.out.size; simp; omega) ?_); intro v' X2 hown1 hgrow hiff; refine Hid.out ?_)
        refine aside ?_
        obtain ⟨g', cap', rfl⟩ : ∃ g' cap', v' = .slice (some ⟨g', 0, none⟩) ((lkP pre).length + 1) cap' := by
          rcases hown1.2 with ⟨_, h⟩ | ⟨g', cap', cur, e, _⟩
          · omega
          · exact ⟨g', cap', e⟩
        have ST := aside (LpC.add (C := V.heap.size) HA.out HBB.out (by decide) (by decide) HVB.out HNE.out.1 HNE.out.2 HBX.out HLP.out.sd HV.out HO.out hown1 hgrow)
        have v1 := cell_one ST.out.1
        have z1 := frozen_one ST.out.1
        clear hown1 hgrow hiff v0 e0 e1 e2 e3 e4
        gi_wp2
        exact ⟨(kf_below BX.out).trans ST.out.2.2, fun _ => ST.out.2.1.sd, by dsimp only; rw [HSN.out, List.length_append, entCells_append, show entCells [x] = entVals x from by simp [entCells]]; exact ST.out.2.1⟩
    case done =>
      rintro D xs X hD rfl hlp hK
      obtain ⟨v, hv, ho⟩ := hlp.lst.ex
      have v0 := cell_one hv
      have FO := aside (ownsRow_ownM ho (grownBy_putObj' X D (.deferred none)) (fun r e => by cases e; exact ⟨_, hK, rfl⟩))
      have FB := aside (ownFrom_below (β := Unit) (Nat.le_refl w.heap.size) HVV.out () X _ (some D) hlp.below (grownBy_putObj' X D (.deferred none)) (fun r e => by cases e; exact ⟨hD, _, hK, rfl⟩))
      clear hlp hv ho
      gi_wp2
      refine ⟨by simp, .inl ⟨_, _, rfl, run_takeDeferred hK, ?_⟩⟩
      exact ⟨.tuple #[v, .int .i64 0], by simp [results, Tryd.f112, go_sem], ⟨v, rfl, FO.out, FB.out⟩⟩
    case stop =>
      rintro D c pre X hD _ h
      exact h.elim
  · rw [outL_bad _ h0]
    have hqb : (q == 0) = false := by simpa using h0
    have H0 := aside h0
    clear h0
    refine (callsIn_wide (n := 5)).1 ?_
    refine callsIn_of_wp_marks Tryd.func112 rfl trivial ?_ rfl
    simp only [Tryd.ntmps112, List.size_toArray, List.length_cons, List.length_nil, Nat.reduceAdd, Nat.reduceSub, Array.replicate_succ, Array.replicate_zero, List.push_toArray, List.append_toArray, List.nil_append, List.cons_append]
    gi_wp2_with fail
    refine ⟨trivial, ?_⟩
    refine (callsIn_wide.2 CK.out).mono ?_
    rintro e w1 ⟨rfl, b1⟩
    have B1 := aside b1
    clear b1 CK
    gi_wp2
    exact ⟨.tuple #[.slice none 0 0, .int .i64 q], by simp [results, Tryd.f112, go_sem], ⟨_, rfl, ⟨rfl, .inl ⟨rfl, rfl⟩⟩, B1.out⟩⟩
end Go.Proofs.YtoflalflacopdaaDoor
namespace Go.Proofs.YtoflalflacopdaaDoor
open Go.RowKit
set_option linter.unusedVariables false
theorem part_of (p : Pm) (lo1 hi1 : ByteArray) (op1 : Bool) (w : World) (h : p.In w) {q : Int} (hq : p.chk hi1 op1 = q) : Calls Tryd.prog 84 #[.agg #[.int .i64 p.kind, .string p.lo, .string p.hi, .bool p.op, .int .i64 p.cnt, .int .u64 p.s0, .int .u64 p.s1, .slice p.ea p.el p.ec], .agg #[.string lo1, .string hi1, .bool op1]] w fun e w' => e = .returned (.int .i64 q) ∧ Below w.heap.size w w' := by
  subst hq
  exact part_any p lo1 hi1 op1 w h
theorem count_of {a : Option Addr} {len cap : Nat} {P : Nat → Pm} {w : World} (h : PartsIn w a len cap P) (hT : totE P len ≤ 4611686018427387904) {q : Nat} (hq : totE P len = q) :
    Calls Tryd.prog 83 #[.slice a len cap] w fun e w' => e = .returned (.int .i64 (q : Int)) ∧ Below w.heap.size w w' := by
  subst hq
  exact count_any a len cap P w h hT
set_option maxHeartbeats 6400000 in
set_option maxRecDepth 100000 in
theorem parts_any (a : Option Addr) (len cap : Nat) (P : Nat → Pm) (w : World) (h : PartsIn w a len cap P) (hT : totE P len ≤ 4611686018427387904) :
    Calls Tryd.prog 52 #[.slice a len cap] w fun e w' => e = .returned (.int .i64 (psChk P len)) ∧ Below w.heap.size w w' := by
  have HE := aside h
  obtain ⟨q, hq⟩ : ∃ q, totE P len = q := ⟨_, rfl⟩
  have CN := aside (count_of h hT hq)
  have HQ := aside hq
  obtain ⟨hlc, hcm, -⟩ := h
  have hmx : (len : Int) ≤ 9223372036854775807 := by unfold maxLen at hcm; omega
  clear hlc hcm hT hq
  by_cases h1 : (768 : Int) < (len : Int)
  · go_enter Tryd.func52, Tryd.ntmps52
    go_wp2
    go_ret
    exact ⟨ret_i64 (by unfold psChk; rw [if_pos (.inl (by omega))]), Below.refl _ _⟩
  · by_cases h2 : (256 : Int) < (q : Int)
    · go_enter Tryd.func52, Tryd.ntmps52
      go_wp2_with fail
      refine CN.out.mono ?_
      rintro e w1 ⟨rfl, b1⟩
      have B1 := aside b1
      clear b1
      go_wp2
      go_ret
      exact ⟨ret_i64 (by unfold psChk; rw [if_pos (.inr (by rw [HQ.out]; omega))]), B1.out⟩
    · go_enter Tryd.func52, Tryd.ntmps52
      go_wp2_with fail
      refine CN.out.mono ?_
      rintro e w1 ⟨rfl, b1⟩
      have HPS := aside (show psChk P len = ptN P len from by unfold psChk; rw [if_neg (by rw [HQ.out]; omega)])
      have B1 := aside (bthen b1 (bnew w1 (.cells #[.string ⟨#[]⟩, .string ⟨#[]⟩, .bool false] 24)))
      have KR := aside (heap_alloc_new w1 (.cells #[.string ⟨#[]⟩, .string ⟨#[]⟩, .bool false] 24))
      have HAB := aside b1.size
      clear b1 CN
      go_wp2
      obtain ⟨ab, hab⟩ : ∃ ab, w1.heap.size = ab := ⟨_, rfl⟩
      rw [hab] at KR HAB ⊢
      clear hab
      generalize w1.alloc (.cells #[.string ⟨#[]⟩, .string ⟨#[]⟩, .bool false] 24) = X0 at B1 KR ⊢
      go_loopw [17] (fun i wr => ∃ j : Nat, i = .int .i64 (j : Int) ∧ j ≤ len ∧ Hid (ptN P j = 0) ∧ Below w.heap.size w wr ∧ Hid (wr.heap[ab]? = some (.cells #[.string (ahLo P j), .string (ahHi P j), .bool (ahOp P j)] 24 (0, 0)))) (fun i _ => len - (intOf i).toNat)
      case atStart => exact ⟨0, rfl, Nat.zero_le _, rfl, B1.out, KR.out⟩
      case round =>
        obtain ⟨j, rfl, hj, HC, hB, HR⟩ := hrel
        have HB := aside hB
        clear hB
        by_cases hlt : (j : Int) < (len : Int)
        · have hE := HE.out.keep HB.out
          rcases hE.2.2 with h0 | ⟨b, off, rfl, hb, hc⟩
          · omega
          obtain ⟨hat, hin⟩ := hc j (by omega)
          obtain ⟨p, hp⟩ : ∃ p, P j = p := ⟨_, rfl⟩
          have HP := aside hp
          rw [hp] at hat hin
          clear hp hc
          obtain ⟨kind, lo, hi, op, cnt, s0, s1, ea, el, ec, T⟩ := p
          obtain ⟨c0, c1, c2, c3, c4, c5, c6, c7⟩ := hat
          dsimp only at c0 c1 c2 c3 c4 c5 c6 c7
          have hj0 : (0 : Int) ≤ (j : Int) := by omega
          obtain ⟨q2, hq2⟩ : ∃ q2, ptAt P j = q2 := ⟨_, rfl⟩
          have HQ2 := aside hq2
          obtain ⟨rl, hrl⟩ : ∃ rl, ahLo P j = rl := ⟨_, rfl⟩
          obtain ⟨rh, hrh⟩ : ∃ rh, ahHi P j = rh := ⟨_, rfl⟩
          obtain ⟨ro, hro⟩ : ∃ ro, ahOp P j = ro := ⟨_, rfl⟩
          unfold ptAt at hq2
          rw [HP.out, hrh, hro] at hq2
          rw [hrl, hrh, hro] at HR
          have CQ := aside (fun W (bb : Below wr.heap.size wr W) => part_of ⟨kind, lo, hi, op, cnt, s0, s1, ea, el, ec, T⟩ rl rh ro W (hin.keep bb) hq2)
          clear hq2 hrl hrh hro hin
          obtain ⟨r0, r1, r2, -⟩ := tri (blk_on HR.out (bnew wr (.cells #[.int .i64 kind, .string lo, .string hi, .bool op, .int .i64 cnt, .int .u64 s0, .int .u64 s1, .slice ea el ec] 59)))
          by_cases hq0 : q2 = 0
          · subst hq0
            go_wp2_with fail
            refine (CQ.out _ (bnew wr _)).mono ?_
            rintro e w2 ⟨rfl, b2⟩
            have B2 := aside (HB.out.trans ((bthen (bnew wr (.cells #[.int .i64 kind, .string lo, .string hi, .bool op, .int .i64 cnt, .int .u64 s0, .int .u64 s1, .slice ea el ec] 59)) b2).mono HB.out.size))
            have HR2 := aside (blk_on HR.out (bthen (bnew wr (.cells #[.int .i64 kind, .string lo, .string hi, .bool op, .int .i64 cnt, .int .u64 s0, .int .u64 s1, .slice ea el ec] 59)) b2))
            obtain ⟨-, p1, p2, p3, -⟩ := oct8 (blk_on (heap_alloc_new wr (.cells #[.int .i64 kind, .string lo, .string hi, .bool op, .int .i64 cnt, .int .u64 s0, .int .u64 s1, .slice ea el ec] 59)) b2)
            clear r0 r1 r2
            obtain ⟨r0, r1, r2, z0, z1, z2⟩ := tri HR2.out
            clear b2 CQ c0 c1 c2 c3 c4 c5 c6 c7
            go_wp2
            go_roundw
            case rel => exact ⟨j + 1, by go_num, by omega, (ptN_step HC.out).trans HQ2.out, ((B2.out.setCell (by simpa using HAB.out) _).setCell (by simpa using HAB.out) _).setCell (by simpa using HAB.out) _, by
                have h9 := set_tri HR2.out (.string lo) (.string hi) (.bool op)
                simp only [ahLo, ahHi, ahOp, HP.out]
                exact h9⟩
            case measure => simp [intOf]; omega
          · have HQ0 := aside hq0
            go_wp2_with fail
            refine (CQ.out _ (bnew wr _)).mono ?_
            rintro e w2 ⟨rfl, b2⟩
            have B2 := aside (HB.out.trans ((bthen (bnew wr (.cells #[.int .i64 kind, .string lo, .string hi, .bool op, .int .i64 cnt, .int .u64 s0, .int .u64 s1, .slice ea el ec] 59)) b2).mono HB.out.size))
            clear b2 CQ c0 c1 c2 c3 c4 c5 c6 c7 r0 r1 r2
            have hqb : (q2 == 0) = false := by simpa using hq0
            go_wp2
            go_ret
            exact ⟨ret_i64 (by rw [HPS.out, ptN_bad HC.out (by omega) (by rw [HQ2.out]; exact HQ0.out)]; exact HQ2.out.symm), B2.out⟩
        · have hjl : j = len := by omega
          subst hjl
          go_wp2
          go_ret
          exact ⟨ret_i64 (by rw [HPS.out]; exact HC.out.symm), HB.out⟩
end Go.Proofs.YtoflalflacopdaaDoor
namespace Go.Proofs.YtoflalflacopdaaDoor
open Go.RowKit
set_option linter.unusedVariables false
section
variable {fr tzz o l n tn : Int} {P : Nat → Pm} {len : Nat}
end
end Go.Proofs.YtoflalflacopdaaDoor
namespace Go.Proofs.YtoflalflacopdaaDoor
open Go.RowKit
set_option linter.unusedVariables false
end Go.Proofs.YtoflalflacopdaaDoor
namespace Go.Proofs.YtoflalflacopdaaDoor
open Go.RowKit
set_option linter.unusedVariables false
end Go.Proofs.YtoflalflacopdaaDoor
namespace Go.Proofs.YtoflalflacopdaaDoor
open Go.RowKit
set_option linter.unusedVariables false
end Go.Proofs.YtoflalflacopdaaDoor
namespace Go.Proofs.YtoflalflacopdaaDoor
open Go.RowKit
set_option linter.unusedVariables false
end Go.Proofs.YtoflalflacopdaaDoor
namespace Go.Proofs.YtoflalflacopdaaDoor
open Go.RowKit
set_option linter.unusedVariables false
end Go.Proofs.YtoflalflacopdaaDoor
namespace Go.Proofs.YtoflalflacopdaaDoor
open Go.RowKit
set_option linter.unusedVariables false
theorem rg_ne_run (lo hi : ByteArray) (op : Bool) (lo' hi' : ByteArray) (op' : Bool) (w : World) : (binOp .neq 24 (.agg #[.string lo, .string hi, .bool op]) (.agg #[.string lo', .string hi', .bool op'])).run Tryd.prog w = .ok (.bool (!(lo.toList == lo'.toList && (hi.toList == hi'.toList && op == op')))) w := by
  rw [run_neq_struct, show (10000 : Nat) = 9999 + 1 from rfl]
  go_simp
  cases h1 : (lo.toList == lo'.toList) <;> cases h2 : (hi.toList == hi'.toList) <;> cases op <;> cases op' <;> simp_all
end Go.Proofs.YtoflalflacopdaaDoor

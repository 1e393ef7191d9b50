/-
  There and back, plain: what Put lays down Get reads, and what Get reads was laid down so.
-/
import Derived.Test.YtnjbglnkhgholaaIGetAny
import Derived.Test.YtnjbglnkhgholaaIPut
namespace Go.Proofs.Ytnjbglnkhgholaa
open Go.RowKit
set_option linter.unusedVariables false

theorem first_put (n : Nat) (most : Int) (hn : n < 9223372036854775808) (hm : (n : Int) ≤ most) (rest : List UInt8) : Nm.first (Nm.enc 8 n ++ rest) most = ((n : Int), ((Nm.enc 8 n).length : Int), 0) :=
  Nm.first_ok (Nm.dec_enc 8 n rest (by omega)) (by omega)

theorem drop_more {l x rest : List UInt8} {p : Nat} (h : l.drop p = x ++ rest) : l.drop (p + x.length) = rest := by rw [← List.drop_drop, h, List.drop_left]

theorem num_put {l rest : List UInt8} {p n : Nat} {most : Int} (hd : l.drop p = Nm.enc 8 n ++ rest) (hn : n < 9223372036854775808) (hm : (n : Int) ≤ most) : numSt l p 0 most = ((n : Int), p + (Nm.enc 8 n).length, 0) := by
  simp [numSt, hd, first_put n most hn hm rest]

theorem text_put {l rest s : List UInt8} {p : Nat} {most : Int} (hd : l.drop p = (Nm.enc 8 s.length ++ s) ++ rest) (hs : s.length < 9223372036854775808) (hm : (s.length : Int) ≤ most) : textSt l p 0 most = (s, p + (Nm.enc 8 s.length ++ s).length, 0) := by
  have hd' : l.drop p = Nm.enc 8 s.length ++ (s ++ rest) := by rw [hd, List.append_assoc]
  have hf := first_put s.length most hs hm (s ++ rest)
  rw [← hd'] at hf
  have hlen : (l.drop p).length = (Nm.enc 8 s.length).length + (s.length + rest.length) := by rw [hd']; simp
  have ht := textOf_ok hf (by rw [hlen]; omega)
  have hx : (l.drop p).drop (Nm.enc 8 s.length).length = s ++ rest := by rw [hd', List.drop_left]
  simp only [textSt, ne_eq, not_true_eq_false, if_false, ht]
  rw [show (((Nm.enc 8 s.length).length : Int)).toNat = (Nm.enc 8 s.length).length from by omega, show ((s.length : Int)).toNat = s.length from by omega, hx, List.take_left]
  rw [List.length_append]
  simp only [Prod.mk.injEq, true_and, and_true]
  omega

theorem flag_put {l rest : List UInt8} {p : Nat} {d : Bool} (hd : l.drop p = flagB d ++ rest) : flagSt l p 0 = (d, p + 1, 0) := by
  have hp : p < l.length := by
    have : (l.drop p).length = (flagB d ++ rest).length := by rw [hd]
    simp [flagB] at this
    omega
  have hc : l[p] = if d then 1 else 0 := by
    have h1 : flagB d ++ rest = l[p] :: l.drop (p + 1) := by rw [← hd]; exact List.drop_eq_getElem_cons hp
    simp only [flagB, List.cons_append, List.cons.injEq] at h1
    exact h1.1.symm
  unfold flagSt
  rw [if_neg (by simp), dif_pos hp, hc]
  cases d <;> simp

/-- An entry that may be, written down and read. -/
theorem get_put (e : En) (h : e.chk = 0) : getSt (entB e) 0 0 = (e, (entB e).length, 0) := by
  obtain ⟨k, c, n, v, d⟩ := e
  obtain ⟨hk, hc1, hc2, hn1, hn2, hv⟩ := En.ok_parts h
  have hkl : k.data.toList.length = k.size := by show k.data.toList.length = k.data.size; simp
  have hvl : v.data.toList.length = v.size := by show v.data.toList.length = v.data.size; simp
  have hcu : ((up c : Nat) : Int) = c := by unfold up; omega
  have hnu : ((up n : Nat) : Int) = n := by unfold up; omega
  obtain ⟨X, hX⟩ : ∃ X, X = (bif d then [] else Nm.enc 8 v.size ++ v.data.toList) := ⟨_, rfl⟩
  obtain ⟨l, hl⟩ : ∃ l, l = entB ⟨k, c, n, v, d⟩ := ⟨_, rfl⟩
  have h0 : l.drop 0 = (Nm.enc 8 k.data.toList.length ++ k.data.toList) ++ (Nm.enc 8 (up c) ++ (Nm.enc 8 (up n) ++ (flagB d ++ X))) := by
    rw [hl, hX, hkl]; simp [entB, List.append_assoc]
  have t1 := text_put (most := 16) h0 (by omega) (by omega)
  have h1 := drop_more h0
  have t2 := num_put (most := 1099511627776) h1 (by omega) (by omega)
  have h2 := drop_more h1
  have t3 := num_put (most := 7) h2 (by omega) (by omega)
  have h3 := drop_more h2
  have t4 := flag_put h3
  have h4 := drop_more h3
  have hlen := congrArg List.length h4
  rw [show (flagB d).length = 1 from rfl] at h4 hlen
  have ek : (⟨k.data.toList.toArray⟩ : ByteArray) = k := by cases k; simp
  rw [← hl, getSt_eq t1 t2 t3 t4, hcu, hnu]
  have hc0 : ¬ c = 0 := by omega
  cases d
  · simp only [cond] at hX
    have h4' := h4.trans (show X = (Nm.enc 8 v.data.toList.length ++ v.data.toList) ++ [] from by rw [List.append_nil, hvl, hX])
    have t5 := text_put (most := 32) h4' (by omega) (by omega)
    have h5 := congrArg List.length (drop_more h4')
    simp only [List.length_drop, List.length_nil] at h5
    have h5' : (Nm.enc 8 v.data.toList.length ++ v.data.toList).length = X.length := by rw [hX, hvl]
    simp only [List.length_drop] at hlen
    have ev : (⟨v.data.toList.toArray⟩ : ByteArray) = v := by cases v; simp
    simp only [getFin]
    rw [t5]
    simp only
    rw [if_neg hc0, ek, ev]
    simp only [if_true, Prod.mk.injEq, true_and, and_true]
    have hpl : 0 + (Nm.enc 8 k.data.toList.length ++ k.data.toList).length + (Nm.enc 8 (up c)).length + (Nm.enc 8 (up n)).length + 1 + X.length = l.length := by
      have := congrArg List.length h0
      simp only [List.length_drop, List.length_append, show (flagB false).length = 1 from rfl] at this
      simp only [List.length_append]
      omega
    omega
  · simp only [cond] at hX
    have hv0 : v = ⟨#[]⟩ := by
      have hh := h
      rw [En.chk_rest true (by omega) (chk_ok (by omega) (by omega) (by omega) (by omega)) (by omega)] at hh
      have : v.toList.isEmpty = true := by
        cases hE : v.toList.isEmpty
        · rw [hE] at hh; simp at hh
        · rfl
      rw [ByteArray.toList_eq] at this
      obtain ⟨⟨x⟩⟩ := v
      simp at this
      rw [this]
    simp only [getFin]
    rw [if_neg hc0, ek, hv0]
    simp only [if_true, Prod.mk.injEq, true_and, and_true]
    have := congrArg List.length h0
    rw [hX] at this
    simp only [List.length_drop, List.length_append, List.length_nil, show (flagB true).length = 1 from rfl] at this
    simp only [List.length_append]
    omega

theorem num_err {l : List UInt8} {p p' : Nat} {e n most : Int} (h : numSt l p e most = (n, p', 0)) : e = 0 := by
  unfold numSt at h
  split at h
  · simp only [Prod.mk.injEq] at h; exact h.2.2
  · rename_i he; exact Classical.byContradiction he
theorem text_err {l t : List UInt8} {p p' : Nat} {e most : Int} (h : textSt l p e most = (t, p', 0)) : e = 0 := by
  unfold textSt at h
  split at h
  · simp only [Prod.mk.injEq] at h; exact h.2.2
  · rename_i he; exact Classical.byContradiction he
theorem flag_err {l : List UInt8} {p p' : Nat} {e : Int} {d : Bool} (h : flagSt l p e = (d, p', 0)) : e = 0 := by
  unfold flagSt at h
  split at h
  · simp only [Prod.mk.injEq] at h; exact h.2.2
  · rename_i he; exact Classical.byContradiction he

theorem first_inv {l : List UInt8} {most n k : Int} (h : Nm.first l most = (n, k, 0)) : ∃ m j : Nat, n = (m : Int) ∧ k = (j : Int) ∧ (m : Int) ≤ most ∧ l.take j = Nm.enc 8 m ∧ j ≤ l.length ∧ 1 ≤ j := by
  rcases hD : Nm.dec 8 l with ⟨m, j, e⟩
  simp only [Nm.first, hD] at h
  split at h
  · rename_i he
    simp only [Prod.mk.injEq] at h
    omega
  · rename_i he
    split at h
    · simp only [Prod.mk.injEq] at h
      omega
    · rename_i hm
      simp only [Prod.mk.injEq] at h
      have he0 : e = 0 := by omega
      subst he0
      obtain ⟨h1, h2, h3, _⟩ := Nm.enc_dec 8 l m j hD
      exact ⟨m, j, h.1.symm, h.2.1.symm, by omega, h1.symm, h3, h2⟩

theorem num_inv {l : List UInt8} {p p' : Nat} {n most : Int} (hp : p ≤ l.length) (h : numSt l p 0 most = (n, p', 0)) : ∃ m : Nat, n = (m : Int) ∧ (m : Int) ≤ most ∧ l.drop p = Nm.enc 8 m ++ l.drop p' ∧ p' ≤ l.length := by
  simp only [numSt, ne_eq, not_true_eq_false, if_false] at h
  simp only [Prod.mk.injEq] at h
  obtain ⟨h1, h2, h3⟩ := h
  obtain ⟨m, j, e1, e2, e3, e4, e5, e6⟩ := first_inv (show Nm.first (l.drop p) most = (n, (Nm.first (l.drop p) most).2.1, 0) from by rw [← h1, ← h3])
  rw [e2] at h2
  rw [List.length_drop] at e5
  refine ⟨m, e1, e3, ?_, by omega⟩
  rw [← e4, ← h2, show ((j : Int)).toNat = j from by omega, ← List.drop_drop, List.take_append_drop]

theorem text_inv {l t : List UInt8} {p p' : Nat} {most : Int} (hp : p ≤ l.length) (h : textSt l p 0 most = (t, p', 0)) : l.drop p = (Nm.enc 8 t.length ++ t) ++ l.drop p' ∧ (t.length : Int) ≤ most ∧ p' ≤ l.length := by
  rcases textSt_cases l p most hp with ⟨e, he, _, hS⟩ | ⟨n, k, _, _, _, _, hS⟩ | ⟨n, k, hF, hk, hle, hS⟩
  · rw [hS] at h; simp only [Prod.mk.injEq] at h; omega
  · rw [hS] at h; simp only [Prod.mk.injEq] at h; omega
  · rw [hS] at h
    simp only [Prod.mk.injEq] at h
    obtain ⟨h1, h2, _⟩ := h
    obtain ⟨m, j, e1, e2, e3, e4, e5, e6⟩ := first_inv hF
    have hmn : m = n := by omega
    have hjk : j = k := by omega
    subst hmn hjk
    have hlt : t.length = m := by rw [← h1, List.length_take, List.length_drop]; omega
    refine ⟨?_, by omega, by omega⟩
    rw [hlt, ← e4, ← h1, ← h2, List.append_assoc]
    rw [show l.drop (p + j + m) = (l.drop (p + j)).drop m from by rw [List.drop_drop], List.take_append_drop, ← List.drop_drop, List.take_append_drop]

theorem flag_inv {l : List UInt8} {p p' : Nat} {d : Bool} (h : flagSt l p 0 = (d, p', 0)) : l.drop p = flagB d ++ l.drop p' ∧ p' ≤ l.length := by
  unfold flagSt at h
  rw [if_neg (by simp)] at h
  split at h
  · rename_i hp
    split at h
    · simp only [Prod.mk.injEq] at h; omega
    · rename_i h1
      simp only [Prod.mk.injEq] at h
      obtain ⟨hd, hp', _⟩ := h
      subst hp'
      refine ⟨?_, hp⟩
      rw [List.drop_eq_getElem_cons hp]
      have hb : l[p] = if d then 1 else 0 := by
        have hcase : l[p].toNat = 0 ∨ l[p].toNat = 1 := by omega
        rcases hcase with hc | hc
        · have e0 : l[p] = 0 := by apply UInt8.toNat_inj.1; simpa using hc
          rw [← hd, hc]; simpa using e0
        · have e0 : l[p] = 1 := by apply UInt8.toNat_inj.1; simpa using hc
          rw [← hd, hc]; simpa using e0
      rw [hb]
      rfl
  · simp only [Prod.mk.injEq] at h; omega

/-- What Get reads without an error was laid down so. -/
theorem get_inv (l : List UInt8) (R : En) (p : Nat) (h : getSt l 0 0 = (R, p, 0)) : R.chk = 0 ∧ l = entB R ++ l.drop p ∧ p ≤ l.length := by
  rcases h1 : textSt l 0 0 16 with ⟨tk, p1, e1⟩
  rcases h2 : numSt l p1 e1 1099511627776 with ⟨c, p2, e2⟩
  rcases h3 : numSt l p2 e2 7 with ⟨n, p3, e3⟩
  rcases h4 : flagSt l p3 e3 with ⟨d, p4, e4⟩
  rw [getSt_eq h1 h2 h3 h4] at h
  have key : ∀ (e4z : e4 = 0), ∃ cm nm : Nat, c = (cm : Int) ∧ n = (nm : Int) ∧ (cm : Int) ≤ 1099511627776 ∧ (nm : Int) ≤ 7 ∧ (tk.length : Int) ≤ 16 ∧ p4 ≤ l.length ∧
      l = (Nm.enc 8 tk.length ++ tk) ++ (Nm.enc 8 cm ++ (Nm.enc 8 nm ++ (flagB d ++ l.drop p4))) := by
    intro e4z
    subst e4z
    obtain rfl := flag_err h4
    obtain rfl := num_err h3
    obtain rfl := num_err h2
    obtain ⟨a1, a2, a3⟩ := text_inv (Nat.zero_le _) h1
    obtain ⟨cm, b1, b2, b3, b4⟩ := num_inv a3 h2
    obtain ⟨nm, c1, c2, c3, c4⟩ := num_inv b4 h3
    obtain ⟨d1, d2⟩ := flag_inv h4
    refine ⟨cm, nm, b1, c1, b2, c2, a2, d2, ?_⟩
    rw [← d1, ← c3, ← b3, ← a1, List.drop_zero]
  have hkt : ∀ t : List UInt8, (⟨t.toArray⟩ : ByteArray).size = t.length := fun t => by show t.toArray.size = t.length; simp
  have hkd : ∀ t : List UInt8, (⟨t.toArray⟩ : ByteArray).data.toList = t := fun t => by simp
  cases d
  · rcases h5 : textSt l p4 e4 32 with ⟨tv, p5, e5⟩
    simp only [getFin] at h
    rw [h5] at h
    simp only at h
    by_cases hc : c = 0
    · rw [if_pos hc] at h
      simp only [Prod.mk.injEq] at h
      have := failOf_ne e5
      rw [h.2.2] at this
      simp at this
    · rw [if_neg hc] at h
      by_cases he : e5 = 0
      · rw [if_pos he] at h
        subst he
        obtain rfl := text_err h5
        obtain ⟨cm, nm, r1, r2, r3, r4, r5, r6, r7⟩ := key rfl
        obtain ⟨v1, v2, v3⟩ := text_inv r6 h5
        simp only [Prod.mk.injEq] at h
        obtain ⟨rfl, rfl, _⟩ := h
        refine ⟨?_, ?_, v3⟩
        · rw [En.chk_rest false (by rw [hkt]; omega) (chk_ok (by omega) (by omega) (by omega) (by omega)) (by rw [hkt]; omega)]
          rfl
        · simp only [entB, cond, hkt]
          rw [show up c = cm from by rw [r1]; unfold up; omega, show up n = nm from by rw [r2]; unfold up; omega]
          have e0 := r7
          rw [v1] at e0
          rw [List.append_assoc, List.append_assoc, List.append_assoc, List.append_assoc]
          simpa [List.append_assoc] using e0
      · rw [if_neg he] at h
        simp only [Prod.mk.injEq] at h
        exact absurd h.2.2 he
  · simp only [getFin] at h
    by_cases hc : c = 0
    · rw [if_pos hc] at h
      simp only [Prod.mk.injEq] at h
      have := failOf_ne e4
      rw [h.2.2] at this
      simp at this
    · rw [if_neg hc] at h
      by_cases he : e4 = 0
      · rw [if_pos he] at h
        obtain ⟨cm, nm, r1, r2, r3, r4, r5, r6, r7⟩ := key he
        simp only [Prod.mk.injEq] at h
        obtain ⟨rfl, rfl, _⟩ := h
        refine ⟨?_, ?_, r6⟩
        · rw [En.chk_rest true (by rw [hkt]; omega) (chk_ok (by omega) (by omega) (by omega) (by omega)) (by decide)]
          rw [show (⟨#[]⟩ : ByteArray).toList = [] from ByteArray.toList_mk []]
          rfl
        · simp only [entB, cond, hkt]
          rw [show up c = cm from by rw [r1]; unfold up; omega, show up n = nm from by rw [r2]; unfold up; omega]
          simpa [List.append_assoc] using r7
      · rw [if_neg he] at h
        simp only [Prod.mk.injEq] at h
        exact absurd h.2.2 he

/-- Of. -/
def ofSt (l : List UInt8) : En × Int :=
  match getSt l 0 0 with
  | (R, p, e) => if doneOf ((l.length : Int) - (p : Int)) e = 0 then (R, 0) else (⟨⟨#[]⟩, 0, 0, ⟨#[]⟩, false⟩, doneOf ((l.length : Int) - (p : Int)) e)

theorem of_put (e : En) (h : e.chk = 0) : ofSt (entB e) = (e, 0) := by
  unfold ofSt
  rw [get_put e h]
  simp only
  rw [if_pos (by unfold doneOf; rw [if_neg (by omega)])]

theorem of_inv (l : List UInt8) (R : En) (h : ofSt l = (R, 0)) : R.chk = 0 ∧ entB R = l := by
  rcases hG : getSt l 0 0 with ⟨R', p, e⟩
  unfold ofSt at h
  rw [hG] at h
  simp only at h
  split at h
  · rename_i hd
    simp only [Prod.mk.injEq, and_true] at h
    subst h
    unfold doneOf at hd
    split at hd
    · omega
    · rename_i hn
      subst hd
      obtain ⟨h1, h2, h3⟩ := get_inv l R' p hG
      have hp : p = l.length := by omega
      rw [hp, List.drop_length, List.append_nil] at h2
      exact ⟨h1, h2.symm⟩
  · rename_i hd
    simp only [Prod.mk.injEq] at h
    exact absurd h.2 hd

end Go.Proofs.Ytnjbglnkhgholaa

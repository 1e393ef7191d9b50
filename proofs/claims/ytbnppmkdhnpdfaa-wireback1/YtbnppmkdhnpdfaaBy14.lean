/-
  Entries, parts and frames as bytes: what is read was written so, what is written is read so.
  A frame read by the reader of frames.
  Same of the document's: frames that are the same.
  What is wrong with a frame hangs on its values alone, not on where they lie.
  What MixTurned needs: a place among n; rows of entries that grow and shrink side by side; sums of lists.
-/
import Derived.Test.YtbnppmkdhnpdfaaBy13
import Derived.Deep.CutBlock
import Derived.Deep.DeepCutAuto
import Derived.Test.YtbnppmkdhnpdfaaBy5
import Derived.Maps.AppendAt
namespace Go.Proofs.Ytbnppmkdhnpdfaa
open Go.RowKit
set_option linter.unusedVariables false
theorem wordB_len (u : Nat) : (wordB u).length = 8 := rfl
theorem valB_wordB (u : Nat) (hu : u < 18446744073709551616) (rest : List UInt8) : valB ((wordB u ++ rest).take 8) = u := by
  have e : (wordB u ++ rest).take 8 = wordB u := by
    rw [List.take_append_of_le_length (by show 8 ≤ (wordB u).length; exact Nat.le_refl 8)]
    exact List.take_of_length_le (Nat.le_refl 8)
  rw [e]
  simp only [wordB, wordFrom, valB, List.foldl_cons, List.foldl_nil, UInt8.toNat_ofNat', Nat.reduceSub, Nat.reduceMul, Nat.reducePow, Nat.reduceAdd]
  omega
theorem word_err {l : List UInt8} {p p' n : Nat} {e : Int} (h : wordSt l p e = (n, p', 0)) : e = 0 := by
  unfold wordSt at h
  split at h
  · simp only [Prod.mk.injEq] at h; exact h.2.2
  · omega
theorem word_inv {l : List UInt8} {p p' n : Nat} (h : wordSt l p 0 = (n, p', 0)) : l.drop p = wordB n ++ l.drop p' ∧ p' ≤ l.length ∧ n < 18446744073709551616 := by
  unfold wordSt at h
  rw [if_neg (by simp)] at h
  split at h
  · simp only [Prod.mk.injEq] at h; omega
  · simp only [Prod.mk.injEq] at h
    obtain ⟨rfl, rfl, -⟩ := h
    have hl : ((l.drop p).take 8).length = 8 := by simp; omega
    refine ⟨?_, by omega, ?_⟩
    · rw [word_val _ hl, ← List.drop_drop, List.take_append_drop]
    · have := valB_lt ((l.drop p).take 8)
      rw [hl] at this
      exact this
theorem word_put {l rest : List UInt8} {p u : Nat} (hd : l.drop p = wordB u ++ rest) (hu : u < 18446744073709551616) : wordSt l p 0 = (u, p + (wordB u).length, 0) := by
  have hlen := congrArg List.length hd
  rw [List.length_drop, List.length_append, wordB_len] at hlen
  unfold wordSt
  rw [if_neg (by simp), if_neg (by omega), hd, valB_wordB u hu]
  rfl
theorem str_put {l rest : List UInt8} {p : Nat} {s : ByteArray} {most : Int} (hd : l.drop p = strB s ++ rest) (hs : s.size < 9223372036854775808) (hm : (s.size : Int) ≤ most) : textSt l p 0 most = (s.data.toList, p + (strB s).length, 0) := by
  have e : strB s = Nm.enc 8 s.data.toList.length ++ s.data.toList := by unfold strB; rw [blen]
  rw [e] at hd ⊢
  exact text_put hd (by rw [blen]; exact hs) (by rw [blen]; exact hm)
theorem numSt_zero {l : List UInt8} {p p' : Nat} {e e' n most : Int} (h : numSt l p e most = (n, p', e')) (he : e' ≠ 0) : n = 0 := by
  unfold numSt at h
  split at h
  · simp only [Prod.mk.injEq] at h; exact h.1.symm
  · simp only [Prod.mk.injEq] at h
    have := (first_parts (l.drop p) most).2.2.2.2.2 (by rw [h.2.2]; exact he)
    omega
/-! Ranges. -/
theorem keys_err {l : List UInt8} {p p' : Nat} {e : Int} {r : ByteArray × ByteArray × Bool} (h : keysSt l p e = (r, p', 0)) : e = 0 := by
  rcases h1 : textSt l p e 16 with ⟨tk, p1, e1⟩
  rcases h2 : flagSt l p1 e1 with ⟨d, p2, e2⟩
  cases d
  · rcases h3 : textSt l p2 e2 16 with ⟨tv, p3, e3⟩
    rw [keysSt_shut h1 h2 h3] at h
    simp only [Prod.mk.injEq] at h
    obtain ⟨-, -, rfl⟩ := h
    obtain rfl := text_err h3
    obtain rfl := flag_err h2
    exact text_err h1
  · rw [keysSt_open h1 h2] at h
    simp only [Prod.mk.injEq] at h
    obtain ⟨-, -, rfl⟩ := h
    obtain rfl := flag_err h2
    exact text_err h1
theorem keys_inv {l : List UInt8} {p p' : Nat} {lo hi : ByteArray} {op : Bool} (hp : p ≤ l.length) (h : keysSt l p 0 = ((lo, hi, op), p', 0)) : l.drop p = rgB lo hi op ++ l.drop p' ∧ p' ≤ l.length ∧ lo.size ≤ 16 ∧ hi.size ≤ 16 ∧ (op = true → hi = ⟨#[]⟩) := by
  rcases h1 : textSt l p 0 16 with ⟨tk, p1, e1⟩
  rcases h2 : flagSt l p1 e1 with ⟨d, p2, e2⟩
  cases d
  · rcases h3 : textSt l p2 e2 16 with ⟨tv, p3, e3⟩
    rw [keysSt_shut h1 h2 h3] at h
    simp only [Prod.mk.injEq] at h
    obtain ⟨⟨rfl, rfl, rfl⟩, rfl, rfl⟩ := h
    obtain rfl := text_err h3
    obtain rfl := flag_err h2
    obtain ⟨a1, a2, a3⟩ := text_inv hp h1
    obtain ⟨b1, b2⟩ := flag_inv h2
    obtain ⟨c1, c2, c3⟩ := text_inv b2 h3
    refine ⟨?_, c3, by rw [bsize]; omega, by rw [bsize]; omega, fun e => by cases e⟩
    unfold rgB
    rw [strB_text, strB_text, a1, b1, c1]
    simp [List.append_assoc]
  · rw [keysSt_open h1 h2] at h
    simp only [Prod.mk.injEq] at h
    obtain ⟨⟨rfl, rfl, rfl⟩, rfl, rfl⟩ := h
    obtain rfl := flag_err h2
    obtain ⟨a1, a2, a3⟩ := text_inv hp h1
    obtain ⟨b1, b2⟩ := flag_inv h2
    refine ⟨?_, b2, by rw [bsize]; omega, by decide, fun _ => rfl⟩
    unfold rgB
    rw [strB_text, a1, b1]
    simp [List.append_assoc]
theorem keys_put {l rest : List UInt8} {p : Nat} {lo hi : ByteArray} {op : Bool} (hd : l.drop p = rgB lo hi op ++ rest) (h1 : lo.size ≤ 16) (h2 : hi.size ≤ 16) (h3 : op = true → hi = ⟨#[]⟩) : keysSt l p 0 = ((lo, hi, op), p + (rgB lo hi op).length, 0) := by
  have hd0 := hd
  unfold rgB at hd
  rw [List.append_assoc] at hd
  have t1 := str_put (most := 16) hd (by omega) (by omega)
  have d1 := drop_more hd
  rw [List.append_assoc] at d1
  have t2 := flag_put d1
  have d2 := drop_more d1
  rw [show (flagB op).length = 1 from rfl] at d2
  cases op
  · simp only [cond] at d2
    have t3 := str_put (most := 16) d2 (by omega) (by omega)
    rw [keysSt_shut t1 t2 t3, bback, bback]
    unfold rgB
    simp only [cond, List.length_append, show (flagB false).length = 1 from rfl, Prod.mk.injEq, true_and, and_true]
    omega
  · obtain rfl := h3 rfl
    rw [keysSt_open t1 t2, bback]
    unfold rgB
    simp only [cond, List.length_append, show (flagB true).length = 1 from rfl, Prod.mk.injEq, true_and, and_true, List.length_nil]
    omega
/-! Tallies. -/
theorem tally_err {l : List UInt8} {p p' : Nat} {e : Int} {r : Int × Nat × Nat} (h : tallySt l p e = (r, p', 0)) : e = 0 := by
  rcases h1 : numSt l p e 256 with ⟨c, p1, e1⟩
  rcases h2 : wordSt l p1 e1 with ⟨a, p2, e2⟩
  rcases h3 : wordSt l p2 e2 with ⟨b, p3, e3⟩
  rw [tallySt_eq h1 h2 h3] at h
  simp only [Prod.mk.injEq] at h
  obtain ⟨-, -, rfl⟩ := h
  obtain rfl := word_err h3
  obtain rfl := word_err h2
  exact num_err h1
theorem tally_inv {l : List UInt8} {p p' a b : Nat} {c : Int} (hp : p ≤ l.length) (h : tallySt l p 0 = ((c, a, b), p', 0)) : l.drop p = (Nm.enc 8 (up c) ++ (wordB a ++ wordB b)) ++ l.drop p' ∧ p' ≤ l.length ∧ 0 ≤ c ∧ c ≤ 256 ∧ a < 18446744073709551616 ∧ b < 18446744073709551616 := by
  rcases h1 : numSt l p 0 256 with ⟨c, p1, e1⟩
  rcases h2 : wordSt l p1 e1 with ⟨a, p2, e2⟩
  rcases h3 : wordSt l p2 e2 with ⟨b, p3, e3⟩
  rw [tallySt_eq h1 h2 h3] at h
  simp only [Prod.mk.injEq] at h
  obtain ⟨⟨rfl, rfl, rfl⟩, rfl, rfl⟩ := h
  obtain rfl := word_err h3
  obtain rfl := word_err h2
  obtain ⟨m, rfl, a2, a3, a4⟩ := num_inv hp h1
  obtain ⟨b1, b2, b3⟩ := word_inv h2
  obtain ⟨c1, c2, c3⟩ := word_inv h3
  refine ⟨?_, c2, by omega, a2, b3, c3⟩
  rw [upN, a3, b1, c1]
  simp [List.append_assoc]
theorem tally_put {l rest : List UInt8} {p a b : Nat} {c : Int} (hd : l.drop p = (Nm.enc 8 (up c) ++ (wordB a ++ wordB b)) ++ rest) (h0 : 0 ≤ c) (h1 : c ≤ 256) (ha : a < 18446744073709551616) (hb : b < 18446744073709551616) : tallySt l p 0 = ((c, a, b), p + (Nm.enc 8 (up c) ++ (wordB a ++ wordB b)).length, 0) := by
  have hu := upI h0
  rw [List.append_assoc] at hd
  have t1 := num_put (most := 256) hd (by omega) (by omega)
  have d1 := drop_more hd
  rw [List.append_assoc] at d1
  have t2 := word_put d1 ha
  have d2 := drop_more d1
  have t3 := word_put d2 hb
  rw [tallySt_eq t1 t2 t3, hu]
  simp only [List.length_append, Prod.mk.injEq, true_and, and_true]
  omega
/-! Entries. -/
theorem ents_inv {l : List UInt8} : ∀ (n p : Nat) {p' : Nat} {acc es : List En}, p ≤ l.length → entsSt l n p 0 acc = (es, p', 0) → ∃ xs, es = acc ++ xs ∧ xs.length = n ∧ l.drop p = esB xs ++ l.drop p' ∧ p' ≤ l.length ∧ ∀ e ∈ xs, e.chk = 0
  | 0, p, p', acc, es, hp, h => by
    simp only [entsSt, Prod.mk.injEq] at h
    obtain ⟨rfl, rfl, -⟩ := h
    exact ⟨[], by simp, rfl, by simp [esB], hp, fun e he => by cases he⟩
  | n + 1, p, p', acc, es, hp, h => by
    rcases hg : getSt l p 0 with ⟨x, p1, e1⟩
    by_cases he : e1 = 0
    · subst he
      rw [entsSt_step hg] at h
      obtain ⟨g1, g2, g3⟩ := get_inv_at hp hg
      obtain ⟨xs, r1, r2, r3, r4, r5⟩ := ents_inv n p1 g3 h
      refine ⟨x :: xs, by rw [r1]; simp, by simp [r2], by rw [g2, r3]; simp [esB, List.append_assoc], r4, fun e h => ?_⟩
      rcases List.mem_cons.1 h with rfl | h
      · exact g1
      · exact r5 e h
    · rw [entsSt_stop hg he] at h
      simp only [Prod.mk.injEq] at h
      exact absurd h.2.2 he
theorem ents_put {l : List UInt8} : ∀ (xs : List En) {rest : List UInt8} {p : Nat} {acc : List En}, (∀ e ∈ xs, e.chk = 0) → l.drop p = esB xs ++ rest → entsSt l xs.length p 0 acc = (acc ++ xs, p + (esB xs).length, 0)
  | [], rest, p, acc, _, hd => by simp [entsSt, esB]
  | x :: xs, rest, p, acc, hc, hd => by
    simp only [esB, List.append_assoc] at hd
    have t1 := get_put_at x (hc x (List.mem_cons_self ..)) hd
    have d1 := drop_more hd
    have := ents_put xs (acc := acc ++ [x]) (fun e he => hc e (List.mem_cons_of_mem _ he)) d1
    rw [List.length_cons, entsSt_step t1, this]
    simp [esB, List.append_assoc, Nat.add_assoc]
theorem entries_err {l : List UInt8} {p p' : Nat} {e : Int} {es : List En} (h : entriesSt l p e = (es, p', 0)) : e = 0 := by
  rcases h1 : numSt l p e 256 with ⟨n, p1, e1⟩
  have h2 : entsSt l n.toNat p1 e1 [] = (es, p', 0) := by rw [← h]; unfold entriesSt; rw [h1]
  by_cases he : e1 = 0
  · subst he; exact num_err h1
  · rw [numSt_zero h1 he] at h2
    simp only [Int.toNat_zero, entsSt, Prod.mk.injEq] at h2
    exact absurd h2.2.2 he
theorem entries_inv {l : List UInt8} {p p' : Nat} {es : List En} (hp : p ≤ l.length) (h : entriesSt l p 0 = (es, p', 0)) : l.drop p = (Nm.enc 8 es.length ++ esB es) ++ l.drop p' ∧ p' ≤ l.length ∧ es.length ≤ 256 ∧ ∀ e ∈ es, e.chk = 0 := by
  rcases h1 : numSt l p 0 256 with ⟨n, p1, e1⟩
  have h2 : entsSt l n.toNat p1 e1 [] = (es, p', 0) := by rw [← h]; unfold entriesSt; rw [h1]
  have he : e1 = 0 := by
    apply Classical.byContradiction
    intro he
    rw [numSt_zero h1 he] at h2
    simp only [Int.toNat_zero, entsSt, Prod.mk.injEq] at h2
    exact he h2.2.2
  subst he
  obtain ⟨m, rfl, a2, a3, a4⟩ := num_inv hp h1
  rw [Int.toNat_natCast] at h2
  obtain ⟨xs, rfl, r2, r3, r4, r5⟩ := ents_inv m p1 a4 h2
  rw [r2]
  exact ⟨by rw [a3, r3]; simp [List.append_assoc], r4, by omega, r5⟩
theorem entries_put {l rest : List UInt8} {p : Nat} {es : List En} (hd : l.drop p = (Nm.enc 8 es.length ++ esB es) ++ rest) (hn : es.length ≤ 256) (hc : ∀ e ∈ es, e.chk = 0) : entriesSt l p 0 = (es, p + (Nm.enc 8 es.length ++ esB es).length, 0) := by
  rw [List.append_assoc] at hd
  have t1 := num_put (most := 256) hd (by omega) (by omega)
  have d1 := drop_more hd
  have t2 := ents_put es (acc := []) hc d1
  unfold entriesSt
  rw [t1]
  dsimp only
  rw [Int.toNat_natCast, t2]
  simp [Nat.add_assoc]
/-! Parts. -/
theorem part_inv {l : List UInt8} {p p' : Nat} {v : PV} (hp : p ≤ l.length) (h : partSt l p 0 = (v, p', 0)) : l.drop p = partB v ++ l.drop p' ∧ p' ≤ l.length ∧ PVok v := by
  rcases h1 : numSt l p 0 3 with ⟨k, p1, e1⟩
  rcases h2 : keysSt l p1 e1 with ⟨⟨lo, hi, op⟩, p2, e2⟩
  by_cases hk1 : k = 1
  · subst hk1
    rcases h3 : tallySt l p2 e2 with ⟨⟨c, a, b⟩, p3, e3⟩
    rw [partSt_print h1 h2 h3] at h
    simp only [Prod.mk.injEq] at h
    obtain ⟨rfl, rfl, rfl⟩ := h
    obtain rfl := tally_err h3
    obtain rfl := keys_err h2
    obtain ⟨m, a1, a2, a3, a4⟩ := num_inv hp h1
    obtain ⟨b1, b2, b3, b4, b5⟩ := keys_inv a4 h2
    obtain ⟨c1, c2, c3, c4, c5, c6⟩ := tally_inv b2 h3
    refine ⟨?_, c2, ⟨.inl rfl, b3, b4, b5, fun _ => ⟨rfl, c3, c4, c5, c6⟩, fun h => absurd rfl h⟩⟩
    unfold partB
    dsimp only
    rw [if_pos rfl, a3, b1, c1, a1, upN]
    simp [List.append_assoc]
  · by_cases hk : k = 2 ∨ k = 3
    · rcases h3 : entriesSt l p2 e2 with ⟨es, p3, e3⟩
      rw [partSt_items h1 h2 hk h3] at h
      simp only [Prod.mk.injEq] at h
      obtain ⟨rfl, rfl, rfl⟩ := h
      obtain rfl := entries_err h3
      obtain rfl := keys_err h2
      obtain ⟨m, a1, a2, a3, a4⟩ := num_inv hp h1
      obtain ⟨b1, b2, b3, b4, b5⟩ := keys_inv a4 h2
      obtain ⟨c1, c2, c3, c4⟩ := entries_inv b2 h3
      refine ⟨?_, c2, ⟨.inr hk, b3, b4, b5, fun h => absurd h hk1, fun _ => ⟨rfl, rfl, rfl, c3, c4⟩⟩⟩
      unfold partB
      dsimp only
      rw [if_neg hk1, a3, b1, c1, a1, upN]
      simp [List.append_assoc]
    · rw [partSt_none h1 h2 hk1 hk] at h
      simp only [Prod.mk.injEq] at h
      have h4 := h.2.2
      unfold failOf at h4
      split at h4
      · omega
      · omega
theorem part_put {l rest : List UInt8} {p : Nat} {v : PV} (hv : PVok v) (hd : l.drop p = partB v ++ rest) : partSt l p 0 = (v, p + (partB v).length, 0) := by
  obtain ⟨k, lo, hi, op, c, a, b, es⟩ := v
  obtain ⟨vk, vlo, vhi, vop, vpr, vit⟩ := hv
  dsimp only at vk vlo vhi vop vpr vit
  unfold partB at hd
  dsimp only at hd
  rw [List.append_assoc, List.append_assoc] at hd
  have hu := upI (show 0 ≤ k by omega)
  have t1 := num_put (most := 3) hd (by omega) (by omega)
  rw [hu] at t1
  have d1 := drop_more hd
  have t2 := keys_put d1 vlo vhi vop
  have d2 := drop_more d1
  by_cases hk1 : k = 1
  · subst hk1
    obtain ⟨rfl, c1, c2, c3, c4⟩ := vpr rfl
    rw [if_pos rfl] at d2
    have t3 := tally_put d2 c1 c2 c3 c4
    rw [partSt_print t1 t2 t3]
    unfold partB
    dsimp only
    rw [if_pos rfl]
    simp only [List.length_append, Prod.mk.injEq, true_and, and_true]
    omega
  · obtain ⟨rfl, rfl, rfl, e1, e2⟩ := vit hk1
    rw [if_neg hk1] at d2
    have t3 := entries_put d2 e1 e2
    rw [partSt_items t1 t2 (by omega) t3]
    unfold partB
    dsimp only
    rw [if_neg hk1]
    simp only [List.length_append, Prod.mk.injEq, true_and, and_true]
    omega
theorem parts_inv {l : List UInt8} : ∀ (n p : Nat) {p' : Nat} {acc vs : List PV}, p ≤ l.length → partsSt l n p 0 acc = (vs, p', 0) → ∃ xs, vs = acc ++ xs ∧ xs.length = n ∧ l.drop p = psB xs ++ l.drop p' ∧ p' ≤ l.length ∧ ∀ v ∈ xs, PVok v
  | 0, p, p', acc, es, hp, h => by
    simp only [partsSt, Prod.mk.injEq] at h
    obtain ⟨rfl, rfl, -⟩ := h
    exact ⟨[], by simp, rfl, by simp [psB], hp, fun e he => by cases he⟩
  | n + 1, p, p', acc, es, hp, h => by
    rcases hg : partSt l p 0 with ⟨x, p1, e1⟩
    by_cases he : e1 = 0
    · subst he
      rw [partsSt_step hg] at h
      obtain ⟨g2, g3, g1⟩ := part_inv hp hg
      obtain ⟨xs, r1, r2, r3, r4, r5⟩ := parts_inv n p1 g3 h
      refine ⟨x :: xs, by rw [r1]; simp, by simp [r2], by rw [g2, r3]; simp [psB, List.append_assoc], r4, fun e h => ?_⟩
      rcases List.mem_cons.1 h with rfl | h
      · exact g1
      · exact r5 e h
    · rw [partsSt_stop hg he] at h
      simp only [Prod.mk.injEq] at h
      exact absurd h.2.2 he
theorem parts_put {l : List UInt8} : ∀ (xs : List PV) {rest : List UInt8} {p : Nat} {acc : List PV}, (∀ v ∈ xs, PVok v) → l.drop p = psB xs ++ rest → partsSt l xs.length p 0 acc = (acc ++ xs, p + (psB xs).length, 0)
  | [], rest, p, acc, _, hd => by simp [partsSt, psB]
  | x :: xs, rest, p, acc, hc, hd => by
    simp only [psB, List.append_assoc] at hd
    have t1 := part_put (hc x (List.mem_cons_self ..)) hd
    have d1 := drop_more hd
    have := parts_put xs (acc := acc ++ [x]) (fun e he => hc e (List.mem_cons_of_mem _ he)) d1
    rw [List.length_cons, partsSt_step t1, this]
    simp [psB, List.append_assoc, Nat.add_assoc]
theorem list_err {l : List UInt8} {p p' : Nat} {e : Int} {vs : List PV} (h : listSt l p e = (vs, p', 0)) : e = 0 := by
  rcases h1 : numSt l p e 768 with ⟨n, p1, e1⟩
  have h2 : partsSt l n.toNat p1 e1 [] = (vs, p', 0) := by rw [← h]; unfold listSt; rw [h1]
  by_cases he : e1 = 0
  · subst he; exact num_err h1
  · rw [numSt_zero h1 he] at h2
    simp only [Int.toNat_zero, partsSt, Prod.mk.injEq] at h2
    exact absurd h2.2.2 he
theorem list_inv {l : List UInt8} {p p' : Nat} {vs : List PV} (hp : p ≤ l.length) (h : listSt l p 0 = (vs, p', 0)) : l.drop p = (Nm.enc 8 vs.length ++ psB vs) ++ l.drop p' ∧ p' ≤ l.length ∧ vs.length ≤ 768 ∧ ∀ v ∈ vs, PVok v := by
  rcases h1 : numSt l p 0 768 with ⟨n, p1, e1⟩
  have h2 : partsSt l n.toNat p1 e1 [] = (vs, p', 0) := by rw [← h]; unfold listSt; rw [h1]
  have he : e1 = 0 := by
    apply Classical.byContradiction
    intro he
    rw [numSt_zero h1 he] at h2
    simp only [Int.toNat_zero, partsSt, Prod.mk.injEq] at h2
    exact he h2.2.2
  subst he
  obtain ⟨m, rfl, a2, a3, a4⟩ := num_inv hp h1
  rw [Int.toNat_natCast] at h2
  obtain ⟨xs, rfl, r2, r3, r4, r5⟩ := parts_inv m p1 a4 h2
  rw [r2]
  exact ⟨by rw [a3, r3]; simp [List.append_assoc], r4, by omega, r5⟩
theorem list_put {l rest : List UInt8} {p : Nat} {vs : List PV} (hd : l.drop p = (Nm.enc 8 vs.length ++ psB vs) ++ rest) (hn : vs.length ≤ 768) (hc : ∀ v ∈ vs, PVok v) : listSt l p 0 = (vs, p + (Nm.enc 8 vs.length ++ psB vs).length, 0) := by
  rw [List.append_assoc] at hd
  have t1 := num_put (most := 768) hd (by omega) (by omega)
  have d1 := drop_more hd
  have t2 := parts_put vs (acc := []) hc d1
  unfold listSt
  rw [t1]
  dsimp only
  rw [Int.toNat_natCast, t2]
  simp [Nat.add_assoc]
/-! Frames. -/
theorem frameSt_eq {l : List UInt8} {p1 p2 p3 p4 p5 p6 p7 : Nat} {a b c d f g e1 e2 e3 e4 e5 e6 e7 : Int} {ps : List PV} (h1 : numSt l 0 0 7 = (a, p1, e1)) (h2 : numSt l p1 e1 7 = (b, p2, e2)) (h3 : numSt l p2 e2 7 = (c, p3, e3)) (h4 : numSt l p3 e3 1048576 = (d, p4, e4)) (h5 : numSt l p4 e4 1048576 = (f, p5, e5)) (h6 : numSt l p5 e5 63 = (g, p6, e6)) (h7 : listSt l p6 e6 = (ps, p7, e7)) : frameSt l = (⟨a, b, c, d, f, g, ps⟩, p7, e7) := by
  unfold frameSt
  rw [h1]; dsimp only
  rw [h2]; dsimp only
  rw [h3]; dsimp only
  rw [h4]; dsimp only
  rw [h5]; dsimp only
  rw [h6]; dsimp only
  rw [h7]
theorem frame_inv {l : List UInt8} {p : Nat} {F : FV} (h : frameSt l = (F, p, 0)) : FVok F ∧ l = frameB F ++ l.drop p ∧ p ≤ l.length := by
  rcases h1 : numSt l 0 0 7 with ⟨a, p1, e1⟩
  rcases h2 : numSt l p1 e1 7 with ⟨b, p2, e2⟩
  rcases h3 : numSt l p2 e2 7 with ⟨c, p3, e3⟩
  rcases h4 : numSt l p3 e3 1048576 with ⟨d, p4, e4⟩
  rcases h5 : numSt l p4 e4 1048576 with ⟨f, p5, e5⟩
  rcases h6 : numSt l p5 e5 63 with ⟨g, p6, e6⟩
  rcases h7 : listSt l p6 e6 with ⟨ps, p7, e7⟩
  rw [frameSt_eq h1 h2 h3 h4 h5 h6 h7] at h
  simp only [Prod.mk.injEq] at h
  obtain ⟨rfl, rfl, rfl⟩ := h
  obtain rfl := list_err h7
  obtain rfl := num_err h6
  obtain rfl := num_err h5
  obtain rfl := num_err h4
  obtain rfl := num_err h3
  obtain rfl := num_err h2
  obtain ⟨m1, rfl, a2, a3, a4⟩ := num_inv (Nat.zero_le _) h1
  obtain ⟨m2, rfl, b2, b3, b4⟩ := num_inv a4 h2
  obtain ⟨m3, rfl, c2, c3, c4⟩ := num_inv b4 h3
  obtain ⟨m4, rfl, d2, d3, d4⟩ := num_inv c4 h4
  obtain ⟨m5, rfl, f2, f3, f4⟩ := num_inv d4 h5
  obtain ⟨m6, rfl, g2, g3, g4⟩ := num_inv f4 h6
  obtain ⟨k1, k2, k3, k4⟩ := list_inv g4 h7
  refine ⟨⟨by dsimp only; omega, by dsimp only; omega, by dsimp only; omega, by dsimp only; omega, by dsimp only; omega, by dsimp only; omega, k3, k4⟩, ?_, k2⟩
  unfold frameB
  dsimp only
  rw [upN, upN, upN, upN, upN, upN]
  rw [List.drop_zero] at a3
  have e := a3
  rw [b3, c3, d3, f3, g3, k1] at e
  exact e.trans (by simp only [List.append_assoc])
theorem frame_put {l rest : List UInt8} {F : FV} (hF : FVok F) (hd : l = frameB F ++ rest) : frameSt l = (F, (frameB F).length, 0) := by
  obtain ⟨fr, tz, o, li, n, tn, ps⟩ := F
  obtain ⟨v1, v2, v3, v4, v5, v6, v7, v8⟩ := hF
  dsimp only at v1 v2 v3 v4 v5 v6 v7 v8
  have u1 := upI v1.1
  have u2 := upI v2.1
  have u3 := upI v3.1
  have u4 := upI v4.1
  have u5 := upI v5.1
  have u6 := upI v6.1
  have d0 : l.drop 0 = Nm.enc 8 (up fr) ++ (Nm.enc 8 (up tz) ++ (Nm.enc 8 (up o) ++ (Nm.enc 8 (up li) ++ (Nm.enc 8 (up n) ++ (Nm.enc 8 (up tn) ++ ((Nm.enc 8 ps.length ++ psB ps) ++ rest)))))) := by
    rw [List.drop_zero, hd]; simp [frameB, List.append_assoc]
  have t1 := num_put (most := 7) d0 (by omega) (by omega)
  have d1 := drop_more d0
  have t2 := num_put (most := 7) d1 (by omega) (by omega)
  have d2 := drop_more d1
  have t3 := num_put (most := 7) d2 (by omega) (by omega)
  have d3 := drop_more d2
  have t4 := num_put (most := 1048576) d3 (by omega) (by omega)
  have d4 := drop_more d3
  have t5 := num_put (most := 1048576) d4 (by omega) (by omega)
  have d5 := drop_more d4
  have t6 := num_put (most := 63) d5 (by omega) (by omega)
  have d6 := drop_more d5
  have t7 := list_put d6 v7 v8
  rw [frameSt_eq t1 t2 t3 t4 t5 t6 t7, u1, u2, u3, u4, u5, u6]
  simp only [frameB, List.length_append, Prod.mk.injEq, true_and, and_true]
  omega
/-- What two frames are written as is never the beginning of one another. -/
theorem frameB_pre {F G : FV} {x y : List UInt8} (hF : FVok F) (hG : FVok G) (h : frameB F ++ x = frameB G ++ y) : F = G ∧ x = y := by
  have h1 := frame_put hF (show frameB F ++ x = frameB F ++ x from rfl)
  have h2 := frame_put hG h
  rw [h1] at h2
  simp only [Prod.mk.injEq] at h2
  obtain ⟨rfl, -⟩ := h2
  exact ⟨rfl, List.append_cancel_left h⟩
end Go.Proofs.Ytbnppmkdhnpdfaa
namespace Go.Proofs.Ytbnppmkdhnpdfaa
open Go.RowKit
set_option linter.unusedVariables false
theorem RdF.low {w : World} {B C n c : Nat} {a : Option Addr} {P : Nat → Pm} {vs : List PV} (h : RdF w B a n c P vs) (hb : C ≤ B) : RdF w C a n c P vs :=
  ⟨own_low h.row hb, h.len, fun i v hv => by
    obtain ⟨h1, h2, h3, h4, h5, h6, h7, h8, h9⟩ := h.ent i v hv
    exact ⟨h1, h2, h3, h4, h5, h6, h7, h8, own_low h9 hb⟩, h.apart⟩
theorem PartsRd.keep {S : Nat → Prop} {w w' : World} {B n c : Nat} {a : Option Addr} {vs : List PV} (h : PartsRd w B a n c vs) (k : Keeps S w w') (hS : ∀ k, S k → ¬ B ≤ k) : PartsRd w' B a n c vs := by
  obtain ⟨P, hP⟩ := h
  exact ⟨P, hP.keep k hS⟩
theorem PartsRd.on {w w' : World} {B n c : Nat} {a : Option Addr} {vs : List PV} (h : PartsRd w B a n c vs) (b : Below w.heap.size w w') : PartsRd w' B a n c vs := h.keep (Keeps.of_below b (fun _ => False)) (fun k h => h.elim)
theorem PartsRd.low {w : World} {B C n c : Nat} {a : Option Addr} {vs : List PV} (h : PartsRd w B a n c vs) (hb : C ≤ B) : PartsRd w C a n c vs := by
  obtain ⟨P, hP⟩ := h
  exact ⟨P, hP.low hb⟩
set_option maxRecDepth 100000 in
set_option maxHeartbeats 3200000 in
theorem rframe_eq {br : Nat} {s : ByteArray} {l : List UInt8} {w : World} {p1 p2 p3 p4 p5 p6 p7 : Nat} {a b c d f g e1 e2 e3 e4 e5 e6 e7 : Int} {vs : List PV} (h : OneR br s l 0 0 w) (h1 : numSt l 0 0 7 = (a, p1, e1)) (h2 : numSt l p1 e1 7 = (b, p2, e2)) (h3 : numSt l p2 e2 7 = (c, p3, e3)) (h4 : numSt l p3 e3 1048576 = (d, p4, e4)) (h5 : numSt l p4 e4 1048576 = (f, p5, e5)) (h6 : numSt l p5 e5 63 = (g, p6, e6)) (h7 : listSt l p6 e6 = (vs, p7, e7)) :
    Calls Try.prog 34 #[.agg #[.pointer (some ⟨br, 0, none⟩)]] w fun r w' => ∃ pa pn pc, r = .returned (.agg #[.int .i64 a, .int .i64 b, .int .i64 c, .int .i64 d, .int .i64 f, .int .i64 g, .slice pa pn pc]) ∧ PartsRd w' w.heap.size pa pn pc vs ∧ OneR br s l p7 e7 w' ∧ Keeps (fun x => x = br) w w' := by
  have C1 := aside (fun w (h : OneR br s l 0 0 w) => one_num_at h1 h)
  have C2 := aside (fun w (h : OneR br s l p1 e1 w) => one_num_at h2 h)
  have C3 := aside (fun w (h : OneR br s l p2 e2 w) => one_num_at h3 h)
  have C4 := aside (fun w (h : OneR br s l p3 e3 w) => one_num_at h4 h)
  have C5 := aside (fun w (h : OneR br s l p4 e4 w) => one_num_at h5 h)
  have C6 := aside (fun w (h : OneR br s l p5 e5 w) => one_num_at h6 h)
  have C7 := aside (fun w (h : OneR br s l p6 e6 w) => rparts_at h h7)
  clear h1 h2 h3 h4 h5 h6 h7
  have z0 := heap_alloc_new w (.cells #[.pointer (some ⟨br, 0, none⟩)] 72)
  have z1 := heap_alloc_new (w.alloc (.cells #[.pointer (some ⟨br, 0, none⟩)] 72)) (.cells #[.int .i64 0, .int .i64 0, .int .i64 0, .int .i64 0, .int .i64 0, .int .i64 0, .slice none 0 0] 26)
  simp only [World.size_alloc] at z1
  replace z0 := blk_on z0 (bnew _ (.cells #[.int .i64 0, .int .i64 0, .int .i64 0, .int .i64 0, .int .i64 0, .int .i64 0, .slice none 0 0] 26))
  have z2 := heap_alloc_new ((w.alloc (.cells #[.pointer (some ⟨br, 0, none⟩)] 72)).alloc (.cells #[.int .i64 0, .int .i64 0, .int .i64 0, .int .i64 0, .int .i64 0, .int .i64 0, .slice none 0 0] 26)) (.cells #[.int .i64 0, .int .i64 0, .int .i64 0, .int .i64 0, .int .i64 0, .int .i64 0, .slice none 0 0] 26)
  simp only [World.size_alloc] at z2
  replace z0 := blk_on z0 (bnew _ (.cells #[.int .i64 0, .int .i64 0, .int .i64 0, .int .i64 0, .int .i64 0, .int .i64 0, .slice none 0 0] 26))
  replace z1 := blk_on z1 (bnew _ (.cells #[.int .i64 0, .int .i64 0, .int .i64 0, .int .i64 0, .int .i64 0, .int .i64 0, .slice none 0 0] 26))
  have hk0 : Keeps (fun x => x = br) w (((w.alloc (.cells #[.pointer (some ⟨br, 0, none⟩)] 72)).alloc (.cells #[.int .i64 0, .int .i64 0, .int .i64 0, .int .i64 0, .int .i64 0, .int .i64 0, .slice none 0 0] 26)).alloc (.cells #[.int .i64 0, .int .i64 0, .int .i64 0, .int .i64 0, .int .i64 0, .int .i64 0, .slice none 0 0] 26)) := (((Keeps.refl (fun x => x = br) w).alloc (.cells #[.pointer (some ⟨br, 0, none⟩)] 72)).alloc (.cells #[.int .i64 0, .int .i64 0, .int .i64 0, .int .i64 0, .int .i64 0, .int .i64 0, .slice none 0 0] 26)).alloc (.cells #[.int .i64 0, .int .i64 0, .int .i64 0, .int .i64 0, .int .i64 0, .int .i64 0, .slice none 0 0] 26)
  have hr0 := h.keep ((((Keeps.refl (fun _ => False) w).alloc (.cells #[.pointer (some ⟨br, 0, none⟩)] 72)).alloc (.cells #[.int .i64 0, .int .i64 0, .int .i64 0, .int .i64 0, .int .i64 0, .int .i64 0, .slice none 0 0] 26)).alloc (.cells #[.int .i64 0, .int .i64 0, .int .i64 0, .int .i64 0, .int .i64 0, .int .i64 0, .slice none 0 0] 26)) (fun h => h)
  have HBR := aside h.lt
  clear h
  have KB0 := aside z0
  have KB1 := aside z1
  have KB2 := aside z2
  have KK := aside hk0
  have RR := aside hr0
  clear hk0 hr0 z0 z1 z2
  go_enter Try.func34, Try.ntmps34
  go_wp2_with fail
  obtain ⟨i0, hi0⟩ : ∃ i0, w.heap.size = i0 := ⟨_, rfl⟩
  obtain ⟨i1, hi1⟩ : ∃ i1, i0 + 1 = i1 := ⟨_, rfl⟩
  obtain ⟨i2, hi2⟩ : ∃ i2, i1 + 1 = i2 := ⟨_, rfl⟩
  have HN := aside (show w.heap.size ≤ i0 ∧ br ≠ i0 ∧ w.heap.size ≤ i1 ∧ br ≠ i1 ∧ w.heap.size ≤ i2 ∧ br ≠ i2 ∧ i0 ≠ i1 ∧ i0 ≠ i2 ∧ i1 ≠ i0 ∧ i1 ≠ i2 ∧ i2 ≠ i0 ∧ i2 ≠ i1 from by have := HBR.out; omega)
  rw [hi0, hi1, hi2] at ⊢
  rw [hi0] at KB0
  rw [hi0, hi1] at KB1
  rw [hi0, hi1, hi2] at KB2
  clear hi0 hi1 hi2
  generalize ((w.alloc (.cells #[.pointer (some ⟨br, 0, none⟩)] 72)).alloc (.cells #[.int .i64 0, .int .i64 0, .int .i64 0, .int .i64 0, .int .i64 0, .int .i64 0, .slice none 0 0] 26)).alloc (.cells #[.int .i64 0, .int .i64 0, .int .i64 0, .int .i64 0, .int .i64 0, .int .i64 0, .slice none 0 0] 26) = X0 at KK RR KB0 KB1 KB2 ⊢
  refine (C1.out _ RR.out).mono ?_
  rintro r w1 ⟨rfl, R1, k1⟩
  replace KB0 := aside ((k1.block i0 (Array.getElem?_eq_some_iff.1 KB0.out).1 (fun h => by have := HN.out; omega)).trans KB0.out)
  replace KB1 := aside ((k1.block i1 (Array.getElem?_eq_some_iff.1 KB1.out).1 (fun h => by have := HN.out; omega)).trans KB1.out)
  replace KB2 := aside ((k1.block i2 (Array.getElem?_eq_some_iff.1 KB2.out).1 (fun h => by have := HN.out; omega)).trans KB2.out)
  replace KK := aside (KK.out.trans k1)
  replace RR := aside R1
  clear k1 R1
  have c2_0 : w1.cell? ⟨i2, 0, none⟩ = some (.int .i64 0) := by rw [cell_of_row _ _ 0 _ _ _ KB2.out]; rfl
  have f2_0 := frozen_of_row _ _ 0 _ _ KB2.out
  have c2_1 : w1.cell? ⟨i2, 1, none⟩ = some (.int .i64 0) := by rw [cell_of_row _ _ 1 _ _ _ KB2.out]; rfl
  have f2_1 := frozen_of_row _ _ 1 _ _ KB2.out
  have c2_2 : w1.cell? ⟨i2, 2, none⟩ = some (.int .i64 0) := by rw [cell_of_row _ _ 2 _ _ _ KB2.out]; rfl
  have f2_2 := frozen_of_row _ _ 2 _ _ KB2.out
  have c2_3 : w1.cell? ⟨i2, 3, none⟩ = some (.int .i64 0) := by rw [cell_of_row _ _ 3 _ _ _ KB2.out]; rfl
  have f2_3 := frozen_of_row _ _ 3 _ _ KB2.out
  have c2_4 : w1.cell? ⟨i2, 4, none⟩ = some (.int .i64 0) := by rw [cell_of_row _ _ 4 _ _ _ KB2.out]; rfl
  have f2_4 := frozen_of_row _ _ 4 _ _ KB2.out
  have c2_5 : w1.cell? ⟨i2, 5, none⟩ = some (.int .i64 0) := by rw [cell_of_row _ _ 5 _ _ _ KB2.out]; rfl
  have f2_5 := frozen_of_row _ _ 5 _ _ KB2.out
  have c2_6 : w1.cell? ⟨i2, 6, none⟩ = some (.slice none 0 0) := by rw [cell_of_row _ _ 6 _ _ _ KB2.out]; rfl
  have f2_6 := frozen_of_row _ _ 6 _ _ KB2.out
  go_upto_region 3 with fail
  clear c2_0 f2_0 c2_1 f2_1 c2_2 f2_2 c2_3 f2_3 c2_4 f2_4 c2_5 f2_5 c2_6 f2_6
  have sk := ((Keeps.refl (fun x => x = i2) w1).setCell (p := ⟨i2, 0, none⟩) (fun _ => rfl) (.int .i64 a))
  replace KB0 := aside ((sk.block i0 (Array.getElem?_eq_some_iff.1 KB0.out).1 (fun h => by have := HN.out; omega)).trans KB0.out)
  replace KB1 := aside ((sk.block i1 (Array.getElem?_eq_some_iff.1 KB1.out).1 (fun h => by have := HN.out; omega)).trans KB1.out)
  have kz := (heap_setCell_same _ i2 0 _ _ (.int .i64 a) KB2.out)
  simp only [List.setIfInBounds_toArray, List.set_cons_zero] at kz
  replace KB2 := aside kz
  replace RR := aside (RR.out.keep sk (fun h => by have := HN.out; omega))
  replace KK := aside (KK.out.setCell (p := ⟨i2, 0, none⟩) (fun h => by have := HN.out; simp only at h; omega) (.int .i64 a))
  clear sk kz
  generalize w1.setCell ⟨i2, 0, none⟩ (.int .i64 a) = X2 at KK RR KB0 KB1 KB2  ⊢
  have c0_0 : X2.cell? ⟨i0, 0, none⟩ = some (.pointer (some ⟨br, 0, none⟩)) := by rw [cell_of_row _ _ 0 _ _ _ KB0.out]; rfl
  go_wp2_with fail
  refine (C2.out _ RR.out).mono ?_
  rintro r w3 ⟨rfl, R1, k1⟩
  clear c0_0
  replace KB0 := aside ((k1.block i0 (Array.getElem?_eq_some_iff.1 KB0.out).1 (fun h => by have := HN.out; omega)).trans KB0.out)
  replace KB1 := aside ((k1.block i1 (Array.getElem?_eq_some_iff.1 KB1.out).1 (fun h => by have := HN.out; omega)).trans KB1.out)
  replace KB2 := aside ((k1.block i2 (Array.getElem?_eq_some_iff.1 KB2.out).1 (fun h => by have := HN.out; omega)).trans KB2.out)
  replace KK := aside (KK.out.trans k1)
  replace RR := aside R1
  clear k1 R1
  have c2_0 : w3.cell? ⟨i2, 0, none⟩ = some (.int .i64 a) := by rw [cell_of_row _ _ 0 _ _ _ KB2.out]; rfl
  have f2_0 := frozen_of_row _ _ 0 _ _ KB2.out
  have c2_1 : w3.cell? ⟨i2, 1, none⟩ = some (.int .i64 0) := by rw [cell_of_row _ _ 1 _ _ _ KB2.out]; rfl
  have f2_1 := frozen_of_row _ _ 1 _ _ KB2.out
  have c2_2 : w3.cell? ⟨i2, 2, none⟩ = some (.int .i64 0) := by rw [cell_of_row _ _ 2 _ _ _ KB2.out]; rfl
  have f2_2 := frozen_of_row _ _ 2 _ _ KB2.out
  have c2_3 : w3.cell? ⟨i2, 3, none⟩ = some (.int .i64 0) := by rw [cell_of_row _ _ 3 _ _ _ KB2.out]; rfl
  have f2_3 := frozen_of_row _ _ 3 _ _ KB2.out
  have c2_4 : w3.cell? ⟨i2, 4, none⟩ = some (.int .i64 0) := by rw [cell_of_row _ _ 4 _ _ _ KB2.out]; rfl
  have f2_4 := frozen_of_row _ _ 4 _ _ KB2.out
  have c2_5 : w3.cell? ⟨i2, 5, none⟩ = some (.int .i64 0) := by rw [cell_of_row _ _ 5 _ _ _ KB2.out]; rfl
  have f2_5 := frozen_of_row _ _ 5 _ _ KB2.out
  have c2_6 : w3.cell? ⟨i2, 6, none⟩ = some (.slice none 0 0) := by rw [cell_of_row _ _ 6 _ _ _ KB2.out]; rfl
  have f2_6 := frozen_of_row _ _ 6 _ _ KB2.out
  go_upto_region 4 with fail
  clear c2_0 f2_0 c2_1 f2_1 c2_2 f2_2 c2_3 f2_3 c2_4 f2_4 c2_5 f2_5 c2_6 f2_6
  have sk := ((Keeps.refl (fun x => x = i2) w3).setCell (p := ⟨i2, 1, none⟩) (fun _ => rfl) (.int .i64 b))
  replace KB0 := aside ((sk.block i0 (Array.getElem?_eq_some_iff.1 KB0.out).1 (fun h => by have := HN.out; omega)).trans KB0.out)
  replace KB1 := aside ((sk.block i1 (Array.getElem?_eq_some_iff.1 KB1.out).1 (fun h => by have := HN.out; omega)).trans KB1.out)
  have kz := (heap_setCell_same _ i2 1 _ _ (.int .i64 b) KB2.out)
  simp only [List.setIfInBounds_toArray, List.set_cons_zero, List.set_cons_succ] at kz
  replace KB2 := aside kz
  replace RR := aside (RR.out.keep sk (fun h => by have := HN.out; omega))
  replace KK := aside (KK.out.setCell (p := ⟨i2, 1, none⟩) (fun h => by have := HN.out; simp only at h; omega) (.int .i64 b))
  clear sk kz
  generalize w3.setCell ⟨i2, 1, none⟩ (.int .i64 b) = X4 at KK RR KB0 KB1 KB2  ⊢
  have c0_0 : X4.cell? ⟨i0, 0, none⟩ = some (.pointer (some ⟨br, 0, none⟩)) := by rw [cell_of_row _ _ 0 _ _ _ KB0.out]; rfl
  go_wp2_with fail
  refine (C3.out _ RR.out).mono ?_
  rintro r w5 ⟨rfl, R1, k1⟩
  clear c0_0
  replace KB0 := aside ((k1.block i0 (Array.getElem?_eq_some_iff.1 KB0.out).1 (fun h => by have := HN.out; omega)).trans KB0.out)
  replace KB1 := aside ((k1.block i1 (Array.getElem?_eq_some_iff.1 KB1.out).1 (fun h => by have := HN.out; omega)).trans KB1.out)
  replace KB2 := aside ((k1.block i2 (Array.getElem?_eq_some_iff.1 KB2.out).1 (fun h => by have := HN.out; omega)).trans KB2.out)
  replace KK := aside (KK.out.trans k1)
  replace RR := aside R1
  clear k1 R1
  have c2_0 : w5.cell? ⟨i2, 0, none⟩ = some (.int .i64 a) := by rw [cell_of_row _ _ 0 _ _ _ KB2.out]; rfl
  have f2_0 := frozen_of_row _ _ 0 _ _ KB2.out
  have c2_1 : w5.cell? ⟨i2, 1, none⟩ = some (.int .i64 b) := by rw [cell_of_row _ _ 1 _ _ _ KB2.out]; rfl
  have f2_1 := frozen_of_row _ _ 1 _ _ KB2.out
  have c2_2 : w5.cell? ⟨i2, 2, none⟩ = some (.int .i64 0) := by rw [cell_of_row _ _ 2 _ _ _ KB2.out]; rfl
  have f2_2 := frozen_of_row _ _ 2 _ _ KB2.out
  have c2_3 : w5.cell? ⟨i2, 3, none⟩ = some (.int .i64 0) := by rw [cell_of_row _ _ 3 _ _ _ KB2.out]; rfl
  have f2_3 := frozen_of_row _ _ 3 _ _ KB2.out
  have c2_4 : w5.cell? ⟨i2, 4, none⟩ = some (.int .i64 0) := by rw [cell_of_row _ _ 4 _ _ _ KB2.out]; rfl
  have f2_4 := frozen_of_row _ _ 4 _ _ KB2.out
  have c2_5 : w5.cell? ⟨i2, 5, none⟩ = some (.int .i64 0) := by rw [cell_of_row _ _ 5 _ _ _ KB2.out]; rfl
  have f2_5 := frozen_of_row _ _ 5 _ _ KB2.out
  have c2_6 : w5.cell? ⟨i2, 6, none⟩ = some (.slice none 0 0) := by rw [cell_of_row _ _ 6 _ _ _ KB2.out]; rfl
  have f2_6 := frozen_of_row _ _ 6 _ _ KB2.out
  go_upto_region 5 with fail
  clear c2_0 f2_0 c2_1 f2_1 c2_2 f2_2 c2_3 f2_3 c2_4 f2_4 c2_5 f2_5 c2_6 f2_6
  have sk := ((Keeps.refl (fun x => x = i2) w5).setCell (p := ⟨i2, 2, none⟩) (fun _ => rfl) (.int .i64 c))
  replace KB0 := aside ((sk.block i0 (Array.getElem?_eq_some_iff.1 KB0.out).1 (fun h => by have := HN.out; omega)).trans KB0.out)
  replace KB1 := aside ((sk.block i1 (Array.getElem?_eq_some_iff.1 KB1.out).1 (fun h => by have := HN.out; omega)).trans KB1.out)
  have kz := (heap_setCell_same _ i2 2 _ _ (.int .i64 c) KB2.out)
  simp only [List.setIfInBounds_toArray, List.set_cons_zero, List.set_cons_succ] at kz
  replace KB2 := aside kz
  replace RR := aside (RR.out.keep sk (fun h => by have := HN.out; omega))
  replace KK := aside (KK.out.setCell (p := ⟨i2, 2, none⟩) (fun h => by have := HN.out; simp only at h; omega) (.int .i64 c))
  clear sk kz
  generalize w5.setCell ⟨i2, 2, none⟩ (.int .i64 c) = X6 at KK RR KB0 KB1 KB2  ⊢
  have c0_0 : X6.cell? ⟨i0, 0, none⟩ = some (.pointer (some ⟨br, 0, none⟩)) := by rw [cell_of_row _ _ 0 _ _ _ KB0.out]; rfl
  go_wp2_with fail
  refine (C4.out _ RR.out).mono ?_
  rintro r w7 ⟨rfl, R1, k1⟩
  clear c0_0
  replace KB0 := aside ((k1.block i0 (Array.getElem?_eq_some_iff.1 KB0.out).1 (fun h => by have := HN.out; omega)).trans KB0.out)
  replace KB1 := aside ((k1.block i1 (Array.getElem?_eq_some_iff.1 KB1.out).1 (fun h => by have := HN.out; omega)).trans KB1.out)
  replace KB2 := aside ((k1.block i2 (Array.getElem?_eq_some_iff.1 KB2.out).1 (fun h => by have := HN.out; omega)).trans KB2.out)
  replace KK := aside (KK.out.trans k1)
  replace RR := aside R1
  clear k1 R1
  have c2_0 : w7.cell? ⟨i2, 0, none⟩ = some (.int .i64 a) := by rw [cell_of_row _ _ 0 _ _ _ KB2.out]; rfl
  have f2_0 := frozen_of_row _ _ 0 _ _ KB2.out
  have c2_1 : w7.cell? ⟨i2, 1, none⟩ = some (.int .i64 b) := by rw [cell_of_row _ _ 1 _ _ _ KB2.out]; rfl
  have f2_1 := frozen_of_row _ _ 1 _ _ KB2.out
  have c2_2 : w7.cell? ⟨i2, 2, none⟩ = some (.int .i64 c) := by rw [cell_of_row _ _ 2 _ _ _ KB2.out]; rfl
  have f2_2 := frozen_of_row _ _ 2 _ _ KB2.out
  have c2_3 : w7.cell? ⟨i2, 3, none⟩ = some (.int .i64 0) := by rw [cell_of_row _ _ 3 _ _ _ KB2.out]; rfl
  have f2_3 := frozen_of_row _ _ 3 _ _ KB2.out
  have c2_4 : w7.cell? ⟨i2, 4, none⟩ = some (.int .i64 0) := by rw [cell_of_row _ _ 4 _ _ _ KB2.out]; rfl
  have f2_4 := frozen_of_row _ _ 4 _ _ KB2.out
  have c2_5 : w7.cell? ⟨i2, 5, none⟩ = some (.int .i64 0) := by rw [cell_of_row _ _ 5 _ _ _ KB2.out]; rfl
  have f2_5 := frozen_of_row _ _ 5 _ _ KB2.out
  have c2_6 : w7.cell? ⟨i2, 6, none⟩ = some (.slice none 0 0) := by rw [cell_of_row _ _ 6 _ _ _ KB2.out]; rfl
  have f2_6 := frozen_of_row _ _ 6 _ _ KB2.out
  go_upto_region 6 with fail
  clear c2_0 f2_0 c2_1 f2_1 c2_2 f2_2 c2_3 f2_3 c2_4 f2_4 c2_5 f2_5 c2_6 f2_6
  have sk := ((Keeps.refl (fun x => x = i2) w7).setCell (p := ⟨i2, 3, none⟩) (fun _ => rfl) (.int .i64 d))
  replace KB0 := aside ((sk.block i0 (Array.getElem?_eq_some_iff.1 KB0.out).1 (fun h => by have := HN.out; omega)).trans KB0.out)
  replace KB1 := aside ((sk.block i1 (Array.getElem?_eq_some_iff.1 KB1.out).1 (fun h => by have := HN.out; omega)).trans KB1.out)
  have kz := (heap_setCell_same _ i2 3 _ _ (.int .i64 d) KB2.out)
  simp only [List.setIfInBounds_toArray, List.set_cons_zero, List.set_cons_succ] at kz
  replace KB2 := aside kz
  replace RR := aside (RR.out.keep sk (fun h => by have := HN.out; omega))
  replace KK := aside (KK.out.setCell (p := ⟨i2, 3, none⟩) (fun h => by have := HN.out; simp only at h; omega) (.int .i64 d))
  clear sk kz
  generalize w7.setCell ⟨i2, 3, none⟩ (.int .i64 d) = X8 at KK RR KB0 KB1 KB2  ⊢
  have c0_0 : X8.cell? ⟨i0, 0, none⟩ = some (.pointer (some ⟨br, 0, none⟩)) := by rw [cell_of_row _ _ 0 _ _ _ KB0.out]; rfl
  go_wp2_with fail
  refine (C5.out _ RR.out).mono ?_
  rintro r w9 ⟨rfl, R1, k1⟩
  clear c0_0
  replace KB0 := aside ((k1.block i0 (Array.getElem?_eq_some_iff.1 KB0.out).1 (fun h => by have := HN.out; omega)).trans KB0.out)
  replace KB1 := aside ((k1.block i1 (Array.getElem?_eq_some_iff.1 KB1.out).1 (fun h => by have := HN.out; omega)).trans KB1.out)
  replace KB2 := aside ((k1.block i2 (Array.getElem?_eq_some_iff.1 KB2.out).1 (fun h => by have := HN.out; omega)).trans KB2.out)
  replace KK := aside (KK.out.trans k1)
  replace RR := aside R1
  clear k1 R1
  have c2_0 : w9.cell? ⟨i2, 0, none⟩ = some (.int .i64 a) := by rw [cell_of_row _ _ 0 _ _ _ KB2.out]; rfl
  have f2_0 := frozen_of_row _ _ 0 _ _ KB2.out
  have c2_1 : w9.cell? ⟨i2, 1, none⟩ = some (.int .i64 b) := by rw [cell_of_row _ _ 1 _ _ _ KB2.out]; rfl
  have f2_1 := frozen_of_row _ _ 1 _ _ KB2.out
  have c2_2 : w9.cell? ⟨i2, 2, none⟩ = some (.int .i64 c) := by rw [cell_of_row _ _ 2 _ _ _ KB2.out]; rfl
  have f2_2 := frozen_of_row _ _ 2 _ _ KB2.out
  have c2_3 : w9.cell? ⟨i2, 3, none⟩ = some (.int .i64 d) := by rw [cell_of_row _ _ 3 _ _ _ KB2.out]; rfl
  have f2_3 := frozen_of_row _ _ 3 _ _ KB2.out
  have c2_4 : w9.cell? ⟨i2, 4, none⟩ = some (.int .i64 0) := by rw [cell_of_row _ _ 4 _ _ _ KB2.out]; rfl
  have f2_4 := frozen_of_row _ _ 4 _ _ KB2.out
  have c2_5 : w9.cell? ⟨i2, 5, none⟩ = some (.int .i64 0) := by rw [cell_of_row _ _ 5 _ _ _ KB2.out]; rfl
  have f2_5 := frozen_of_row _ _ 5 _ _ KB2.out
  have c2_6 : w9.cell? ⟨i2, 6, none⟩ = some (.slice none 0 0) := by rw [cell_of_row _ _ 6 _ _ _ KB2.out]; rfl
  have f2_6 := frozen_of_row _ _ 6 _ _ KB2.out
  go_upto_region 7 with fail
  clear c2_0 f2_0 c2_1 f2_1 c2_2 f2_2 c2_3 f2_3 c2_4 f2_4 c2_5 f2_5 c2_6 f2_6
  have sk := ((Keeps.refl (fun x => x = i2) w9).setCell (p := ⟨i2, 4, none⟩) (fun _ => rfl) (.int .i64 f))
  replace KB0 := aside ((sk.block i0 (Array.getElem?_eq_some_iff.1 KB0.out).1 (fun h => by have := HN.out; omega)).trans KB0.out)
  replace KB1 := aside ((sk.block i1 (Array.getElem?_eq_some_iff.1 KB1.out).1 (fun h => by have := HN.out; omega)).trans KB1.out)
  have kz := (heap_setCell_same _ i2 4 _ _ (.int .i64 f) KB2.out)
  simp only [List.setIfInBounds_toArray, List.set_cons_zero, List.set_cons_succ] at kz
  replace KB2 := aside kz
  replace RR := aside (RR.out.keep sk (fun h => by have := HN.out; omega))
  replace KK := aside (KK.out.setCell (p := ⟨i2, 4, none⟩) (fun h => by have := HN.out; simp only at h; omega) (.int .i64 f))
  clear sk kz
  generalize w9.setCell ⟨i2, 4, none⟩ (.int .i64 f) = X10 at KK RR KB0 KB1 KB2  ⊢
  have c0_0 : X10.cell? ⟨i0, 0, none⟩ = some (.pointer (some ⟨br, 0, none⟩)) := by rw [cell_of_row _ _ 0 _ _ _ KB0.out]; rfl
  go_wp2_with fail
  refine (C6.out _ RR.out).mono ?_
  rintro r w11 ⟨rfl, R1, k1⟩
  clear c0_0
  replace KB0 := aside ((k1.block i0 (Array.getElem?_eq_some_iff.1 KB0.out).1 (fun h => by have := HN.out; omega)).trans KB0.out)
  replace KB1 := aside ((k1.block i1 (Array.getElem?_eq_some_iff.1 KB1.out).1 (fun h => by have := HN.out; omega)).trans KB1.out)
  replace KB2 := aside ((k1.block i2 (Array.getElem?_eq_some_iff.1 KB2.out).1 (fun h => by have := HN.out; omega)).trans KB2.out)
  replace KK := aside (KK.out.trans k1)
  replace RR := aside R1
  clear k1 R1
  have c2_0 : w11.cell? ⟨i2, 0, none⟩ = some (.int .i64 a) := by rw [cell_of_row _ _ 0 _ _ _ KB2.out]; rfl
  have f2_0 := frozen_of_row _ _ 0 _ _ KB2.out
  have c2_1 : w11.cell? ⟨i2, 1, none⟩ = some (.int .i64 b) := by rw [cell_of_row _ _ 1 _ _ _ KB2.out]; rfl
  have f2_1 := frozen_of_row _ _ 1 _ _ KB2.out
  have c2_2 : w11.cell? ⟨i2, 2, none⟩ = some (.int .i64 c) := by rw [cell_of_row _ _ 2 _ _ _ KB2.out]; rfl
  have f2_2 := frozen_of_row _ _ 2 _ _ KB2.out
  have c2_3 : w11.cell? ⟨i2, 3, none⟩ = some (.int .i64 d) := by rw [cell_of_row _ _ 3 _ _ _ KB2.out]; rfl
  have f2_3 := frozen_of_row _ _ 3 _ _ KB2.out
  have c2_4 : w11.cell? ⟨i2, 4, none⟩ = some (.int .i64 f) := by rw [cell_of_row _ _ 4 _ _ _ KB2.out]; rfl
  have f2_4 := frozen_of_row _ _ 4 _ _ KB2.out
  have c2_5 : w11.cell? ⟨i2, 5, none⟩ = some (.int .i64 0) := by rw [cell_of_row _ _ 5 _ _ _ KB2.out]; rfl
  have f2_5 := frozen_of_row _ _ 5 _ _ KB2.out
  have c2_6 : w11.cell? ⟨i2, 6, none⟩ = some (.slice none 0 0) := by rw [cell_of_row _ _ 6 _ _ _ KB2.out]; rfl
  have f2_6 := frozen_of_row _ _ 6 _ _ KB2.out
  go_upto_region 8 with fail
  clear c2_0 f2_0 c2_1 f2_1 c2_2 f2_2 c2_3 f2_3 c2_4 f2_4 c2_5 f2_5 c2_6 f2_6
  have sk := ((Keeps.refl (fun x => x = i2) w11).setCell (p := ⟨i2, 5, none⟩) (fun _ => rfl) (.int .i64 g))
  replace KB0 := aside ((sk.block i0 (Array.getElem?_eq_some_iff.1 KB0.out).1 (fun h => by have := HN.out; omega)).trans KB0.out)
  replace KB1 := aside ((sk.block i1 (Array.getElem?_eq_some_iff.1 KB1.out).1 (fun h => by have := HN.out; omega)).trans KB1.out)
  have kz := (heap_setCell_same _ i2 5 _ _ (.int .i64 g) KB2.out)
  simp only [List.setIfInBounds_toArray, List.set_cons_zero, List.set_cons_succ] at kz
  replace KB2 := aside kz
  replace RR := aside (RR.out.keep sk (fun h => by have := HN.out; omega))
  replace KK := aside (KK.out.setCell (p := ⟨i2, 5, none⟩) (fun h => by have := HN.out; simp only at h; omega) (.int .i64 g))
  clear sk kz
  generalize w11.setCell ⟨i2, 5, none⟩ (.int .i64 g) = X12 at KK RR KB0 KB1 KB2  ⊢
  have c0_0 : X12.cell? ⟨i0, 0, none⟩ = some (.pointer (some ⟨br, 0, none⟩)) := by rw [cell_of_row _ _ 0 _ _ _ KB0.out]; rfl
  go_wp2_with fail
  have HBX := aside (show w.heap.size ≤ X12.heap.size ∧ i1 < X12.heap.size ∧ i2 < X12.heap.size from ⟨KK.out.size, (Array.getElem?_eq_some_iff.1 KB1.out).1, (Array.getElem?_eq_some_iff.1 KB2.out).1⟩)
  refine (C7.out _ RR.out).mono ?_
  rintro r w13 ⟨pa, pn, pc, rfl, PR1, R1, k1⟩
  clear c0_0
  replace KB0 := aside ((k1.block i0 (Array.getElem?_eq_some_iff.1 KB0.out).1 (fun h => by have := HN.out; omega)).trans KB0.out)
  replace KB1 := aside ((k1.block i1 (Array.getElem?_eq_some_iff.1 KB1.out).1 (fun h => by have := HN.out; omega)).trans KB1.out)
  replace KB2 := aside ((k1.block i2 (Array.getElem?_eq_some_iff.1 KB2.out).1 (fun h => by have := HN.out; omega)).trans KB2.out)
  replace KK := aside (KK.out.trans k1)
  replace RR := aside R1
  clear k1 R1
  have PR := aside PR1
  clear PR1
  have c2_0 : w13.cell? ⟨i2, 0, none⟩ = some (.int .i64 a) := by rw [cell_of_row _ _ 0 _ _ _ KB2.out]; rfl
  have f2_0 := frozen_of_row _ _ 0 _ _ KB2.out
  have c2_1 : w13.cell? ⟨i2, 1, none⟩ = some (.int .i64 b) := by rw [cell_of_row _ _ 1 _ _ _ KB2.out]; rfl
  have f2_1 := frozen_of_row _ _ 1 _ _ KB2.out
  have c2_2 : w13.cell? ⟨i2, 2, none⟩ = some (.int .i64 c) := by rw [cell_of_row _ _ 2 _ _ _ KB2.out]; rfl
  have f2_2 := frozen_of_row _ _ 2 _ _ KB2.out
  have c2_3 : w13.cell? ⟨i2, 3, none⟩ = some (.int .i64 d) := by rw [cell_of_row _ _ 3 _ _ _ KB2.out]; rfl
  have f2_3 := frozen_of_row _ _ 3 _ _ KB2.out
  have c2_4 : w13.cell? ⟨i2, 4, none⟩ = some (.int .i64 f) := by rw [cell_of_row _ _ 4 _ _ _ KB2.out]; rfl
  have f2_4 := frozen_of_row _ _ 4 _ _ KB2.out
  have c2_5 : w13.cell? ⟨i2, 5, none⟩ = some (.int .i64 g) := by rw [cell_of_row _ _ 5 _ _ _ KB2.out]; rfl
  have f2_5 := frozen_of_row _ _ 5 _ _ KB2.out
  have c2_6 : w13.cell? ⟨i2, 6, none⟩ = some (.slice none 0 0) := by rw [cell_of_row _ _ 6 _ _ _ KB2.out]; rfl
  have f2_6 := frozen_of_row _ _ 6 _ _ KB2.out
  go_upto_region 9 with fail
  clear c2_0 f2_0 c2_1 f2_1 c2_2 f2_2 c2_3 f2_3 c2_4 f2_4 c2_5 f2_5 c2_6 f2_6
  have sk := ((Keeps.refl (fun x => x = i2) w13).setCell (p := ⟨i2, 6, none⟩) (fun _ => rfl) (.slice pa pn pc))
  replace KB0 := aside ((sk.block i0 (Array.getElem?_eq_some_iff.1 KB0.out).1 (fun h => by have := HN.out; omega)).trans KB0.out)
  replace KB1 := aside ((sk.block i1 (Array.getElem?_eq_some_iff.1 KB1.out).1 (fun h => by have := HN.out; omega)).trans KB1.out)
  replace PR := aside (PR.out.keep sk (fun k e h => by have := HBX.out; omega))
  have kz := (heap_setCell_same _ i2 6 _ _ (.slice pa pn pc) KB2.out)
  simp only [List.setIfInBounds_toArray, List.set_cons_zero, List.set_cons_succ] at kz
  replace KB2 := aside kz
  replace RR := aside (RR.out.keep sk (fun h => by have := HN.out; omega))
  replace KK := aside (KK.out.setCell (p := ⟨i2, 6, none⟩) (fun h => by have := HN.out; simp only at h; omega) (.slice pa pn pc))
  clear sk kz
  generalize w13.setCell ⟨i2, 6, none⟩ (.slice pa pn pc) = X14 at KK RR KB0 KB1 KB2 PR ⊢
  have c2_0 : X14.cell? ⟨i2, 0, none⟩ = some (.int .i64 a) := by rw [cell_of_row _ _ 0 _ _ _ KB2.out]; rfl
  have c2_1 : X14.cell? ⟨i2, 1, none⟩ = some (.int .i64 b) := by rw [cell_of_row _ _ 1 _ _ _ KB2.out]; rfl
  have c2_2 : X14.cell? ⟨i2, 2, none⟩ = some (.int .i64 c) := by rw [cell_of_row _ _ 2 _ _ _ KB2.out]; rfl
  have c2_3 : X14.cell? ⟨i2, 3, none⟩ = some (.int .i64 d) := by rw [cell_of_row _ _ 3 _ _ _ KB2.out]; rfl
  have c2_4 : X14.cell? ⟨i2, 4, none⟩ = some (.int .i64 f) := by rw [cell_of_row _ _ 4 _ _ _ KB2.out]; rfl
  have c2_5 : X14.cell? ⟨i2, 5, none⟩ = some (.int .i64 g) := by rw [cell_of_row _ _ 5 _ _ _ KB2.out]; rfl
  have c2_6 : X14.cell? ⟨i2, 6, none⟩ = some (.slice pa pn pc) := by rw [cell_of_row _ _ 6 _ _ _ KB2.out]; rfl
  have c1_0 : X14.cell? ⟨i1, 0, none⟩ = some (.int .i64 0) := by rw [cell_of_row _ _ 0 _ _ _ KB1.out]; rfl
  have f1_0 := frozen_of_row _ _ 0 _ _ KB1.out
  have c1_1 : X14.cell? ⟨i1, 1, none⟩ = some (.int .i64 0) := by rw [cell_of_row _ _ 1 _ _ _ KB1.out]; rfl
  have f1_1 := frozen_of_row _ _ 1 _ _ KB1.out
  have c1_2 : X14.cell? ⟨i1, 2, none⟩ = some (.int .i64 0) := by rw [cell_of_row _ _ 2 _ _ _ KB1.out]; rfl
  have f1_2 := frozen_of_row _ _ 2 _ _ KB1.out
  have c1_3 : X14.cell? ⟨i1, 3, none⟩ = some (.int .i64 0) := by rw [cell_of_row _ _ 3 _ _ _ KB1.out]; rfl
  have f1_3 := frozen_of_row _ _ 3 _ _ KB1.out
  have c1_4 : X14.cell? ⟨i1, 4, none⟩ = some (.int .i64 0) := by rw [cell_of_row _ _ 4 _ _ _ KB1.out]; rfl
  have f1_4 := frozen_of_row _ _ 4 _ _ KB1.out
  have c1_5 : X14.cell? ⟨i1, 5, none⟩ = some (.int .i64 0) := by rw [cell_of_row _ _ 5 _ _ _ KB1.out]; rfl
  have f1_5 := frozen_of_row _ _ 5 _ _ KB1.out
  have c1_6 : X14.cell? ⟨i1, 6, none⟩ = some (.slice none 0 0) := by rw [cell_of_row _ _ 6 _ _ _ KB1.out]; rfl
  have f1_6 := frozen_of_row _ _ 6 _ _ KB1.out
  have SK := aside (((((((((Keeps.refl (fun x => x = i1) X14).setCell (p := ⟨i1, 0, none⟩) (fun _ => rfl) (.int .i64 a)).setCell (p := ⟨i1, 1, none⟩) (fun _ => rfl) (.int .i64 b)).setCell (p := ⟨i1, 2, none⟩) (fun _ => rfl) (.int .i64 c)).setCell (p := ⟨i1, 3, none⟩) (fun _ => rfl) (.int .i64 d)).setCell (p := ⟨i1, 4, none⟩) (fun _ => rfl) (.int .i64 f)).setCell (p := ⟨i1, 5, none⟩) (fun _ => rfl) (.int .i64 g)).setCell (p := ⟨i1, 6, none⟩) (fun _ => rfl) (.slice pa pn pc)))
  have KF := aside ((((((((KK.out.setCell (p := ⟨i1, 0, none⟩) (fun h => by have := HN.out; simp only at h; omega) (.int .i64 a)).setCell (p := ⟨i1, 1, none⟩) (fun h => by have := HN.out; simp only at h; omega) (.int .i64 b)).setCell (p := ⟨i1, 2, none⟩) (fun h => by have := HN.out; simp only at h; omega) (.int .i64 c)).setCell (p := ⟨i1, 3, none⟩) (fun h => by have := HN.out; simp only at h; omega) (.int .i64 d)).setCell (p := ⟨i1, 4, none⟩) (fun h => by have := HN.out; simp only at h; omega) (.int .i64 f)).setCell (p := ⟨i1, 5, none⟩) (fun h => by have := HN.out; simp only at h; omega) (.int .i64 g)).setCell (p := ⟨i1, 6, none⟩) (fun h => by have := HN.out; simp only at h; omega) (.slice pa pn pc)))
  have kz := (heap_setCell_same _ i1 6 _ _ (.slice pa pn pc) (heap_setCell_same _ i1 5 _ _ (.int .i64 g) (heap_setCell_same _ i1 4 _ _ (.int .i64 f) (heap_setCell_same _ i1 3 _ _ (.int .i64 d) (heap_setCell_same _ i1 2 _ _ (.int .i64 c) (heap_setCell_same _ i1 1 _ _ (.int .i64 b) (heap_setCell_same _ i1 0 _ _ (.int .i64 a) KB1.out)))))))
  simp only [List.setIfInBounds_toArray, List.set_cons_zero, List.set_cons_succ] at kz
  have KR := aside kz
  clear kz
  go_wp2
  exact bodyPost_ret (v := .agg #[.int .i64 a, .int .i64 b, .int .i64 c, .int .i64 d, .int .i64 f, .int .i64 g, .slice pa pn pc]) (by simp [results, Try.results34, go_sem, cell_of_row _ _ 0 _ _ _ KR.out, cell_of_row _ _ 1 _ _ _ KR.out, cell_of_row _ _ 2 _ _ _ KR.out, cell_of_row _ _ 3 _ _ _ KR.out, cell_of_row _ _ 4 _ _ _ KR.out, cell_of_row _ _ 5 _ _ _ KR.out, cell_of_row _ _ 6 _ _ _ KR.out]) rfl ⟨pa, pn, pc, rfl, (PR.out.keep SK.out (fun k e h => by have := HBX.out; omega)).low HBX.out.1, RR.out.keep SK.out (fun h => by have := HN.out; omega), KF.out⟩
theorem rframe_at {br : Nat} {s : ByteArray} {l : List UInt8} {w : World} {F : FV} {p' : Nat} {e' : Int} (h : OneR br s l 0 0 w) (hf : frameSt l = (F, p', e')) :
    Calls Try.prog 34 #[.agg #[.pointer (some ⟨br, 0, none⟩)]] w fun r w' => ∃ pa pn pc, r = .returned (.agg #[.int .i64 F.fr, .int .i64 F.tz, .int .i64 F.o, .int .i64 F.l, .int .i64 F.n, .int .i64 F.tn, .slice pa pn pc]) ∧ PartsRd w' w.heap.size pa pn pc F.ps ∧ OneR br s l p' e' w' ∧ Keeps (fun x => x = br) w w' := by
  rcases h1 : numSt l 0 0 7 with ⟨a, p1, e1⟩
  rcases h2 : numSt l p1 e1 7 with ⟨b, p2, e2⟩
  rcases h3 : numSt l p2 e2 7 with ⟨c, p3, e3⟩
  rcases h4 : numSt l p3 e3 1048576 with ⟨d, p4, e4⟩
  rcases h5 : numSt l p4 e4 1048576 with ⟨f, p5, e5⟩
  rcases h6 : numSt l p5 e5 63 with ⟨g, p6, e6⟩
  rcases h7 : listSt l p6 e6 with ⟨ps, p7, e7⟩
  rw [frameSt_eq h1 h2 h3 h4 h5 h6 h7] at hf
  simp only [Prod.mk.injEq] at hf
  obtain ⟨rfl, rfl, rfl⟩ := hf
  exact rframe_eq h h1 h2 h3 h4 h5 h6 h7
end Go.Proofs.Ytbnppmkdhnpdfaa
namespace Go.Proofs.Ytbnppmkdhnpdfaa
open Go.RowKit
set_option linter.unusedVariables false
/-- Whether two parts are the same. -/
def SamePm (p q : Pm) : Prop := p.kind = q.kind ∧ p.lo = q.lo ∧ p.hi = q.hi ∧ p.op = q.op ∧ p.cnt = q.cnt ∧ p.s0 = q.s0 ∧ p.s1 = q.s1 ∧ p.el = q.el ∧ ∀ k, k < p.el → p.T k = q.T k
theorem rg_ne_same (lo hi : ByteArray) (op : Bool) (w : World) : (binOp .neq 38 (.agg #[.string lo, .string hi, .bool op]) (.agg #[.string lo, .string hi, .bool op])).run Try.prog w = .ok (.bool false) w := by
  rw [rg_ne_run]; simp
theorem ent_ne_sameF (k : ByteArray) (c n : Int) (v : ByteArray) (d : Bool) (w : World) : (binOp .neq 50 (.agg #[.string k, .int .i64 c, .int .i64 n, .string v, .bool d]) (.agg #[.string k, .int .i64 c, .int .i64 n, .string v, .bool d])).run Try.prog w = .ok (.bool false) w := by
  rw [run_neq_struct, show (10000 : Nat) = 9999 + 1 from rfl]
  go_simp
theorem name_same (a l n : Int) (w : World) : (binOp .eql 23 (.agg #[.int .i64 a, .int .i64 l, .int .i64 n]) (.agg #[.int .i64 a, .int .i64 l, .int .i64 n])).run Try.prog w = .ok (.bool true) w := by
  rw [name_run]; simp
end Go.Proofs.Ytbnppmkdhnpdfaa
namespace Go.Proofs.Ytbnppmkdhnpdfaa
open Go.RowKit
set_option linter.unusedVariables false
theorem itN_ext {r : Rg} {T S : Nat → En} : ∀ {n : Nat}, (∀ k, k < n → T k = S k) → itN r T n = itN r S n
  | 0, _ => rfl
  | n + 1, h => by
    have e := itN_ext (r := r) (fun k hk => h k (Nat.lt_succ_of_lt hk))
    have e2 : itAt r T n = itAt r S n := by
      unfold itAt
      rw [h n (Nat.lt_succ_self _)]
      by_cases hn : n = 0
      · subst hn; simp
      · rw [h (n - 1) (by omega)]
    simp only [itN]
    rw [e, e2]
theorem SamePm.chk {p q : Pm} (h : SamePm p q) (hi : ByteArray) (op : Bool) : p.chk hi op = q.chk hi op := by
  obtain ⟨k1, lo1, hi1, op1, c1, a1, b1, ea1, el1, ec1, T1⟩ := p
  obtain ⟨k2, lo2, hi2, op2, c2, a2, b2, ea2, el2, ec2, T2⟩ := q
  obtain ⟨h1, h2, h3, h4, h5, h6, h7, h8, h9⟩ := h
  dsimp only at h1 h2 h3 h4 h5 h6 h7 h8 h9
  subst h1 h2 h3 h4 h5 h6 h7 h8
  unfold Pm.chk Pm.alone Pm.its Pm.rg
  dsimp only
  rw [itN_ext h9]
section
variable {P Q : Nat → Pm} {n : Nat}
theorem ptN_ext : ∀ {n : Nat}, (∀ i, i < n → SamePm (P i) (Q i)) → ptN P n = ptN Q n
  | 0, _ => rfl
  | n + 1, h => by
    have e := ptN_ext (fun k hk => h k (Nat.lt_succ_of_lt hk))
    have e2 : ptAt P n = ptAt Q n := by
      unfold ptAt
      rw [(h n (Nat.lt_succ_self _)).chk]
      cases n with
      | zero => rfl
      | succ m =>
        simp only [ahHi, ahOp]
        rw [(h m (by omega)).2.2.1, (h m (by omega)).2.2.2.1]
    simp only [ptN]
    rw [e, e2]
theorem totE_ext : ∀ {n : Nat}, (∀ i, i < n → SamePm (P i) (Q i)) → totE P n = totE Q n
  | 0, _ => rfl
  | n + 1, h => by
    have e := totE_ext (fun k hk => h k (Nat.lt_succ_of_lt hk))
    simp only [totE]
    rw [e, (h n (Nat.lt_succ_self _)).2.2.2.2.2.2.2.1]
theorem psChk_ext (h : ∀ i, i < n → SamePm (P i) (Q i)) : psChk P n = psChk Q n := by
  unfold psChk
  rw [ptN_ext h, totE_ext h]
theorem opening_ext (h : ∀ i, i < n → SamePm (P i) (Q i)) : opening P n = opening Q n := by
  unfold opening
  by_cases hn : n = 1
  · subst hn
    obtain ⟨h1, h2, h3, h4, -⟩ := h 0 (by omega)
    rw [h1, h2, h3, h4]
  · simp [hn]
theorem fChk_ext {fr tz o l k tn : Int} (h : ∀ i, i < n → SamePm (P i) (Q i)) : fChk fr tz o l k tn P n = fChk fr tz o l k tn Q n := by
  unfold fChk
  rw [psChk_ext h, opening_ext h]
end
theorem totE_most {P : Nat → Pm} {m : Nat} : ∀ {n : Nat}, (∀ i, i < n → (P i).el ≤ m) → totE P n ≤ n * m
  | 0, _ => Nat.zero_le _
  | n + 1, h => by
    have e := totE_most (fun k hk => h k (Nat.lt_succ_of_lt hk))
    have := h n (Nat.lt_succ_self _)
    simp only [totE]
    rw [Nat.succ_mul]
    omega
end Go.Proofs.Ytbnppmkdhnpdfaa
namespace Go.Proofs.Ytbnppmkdhnpdfaa
open Go.RowKit
set_option linter.unusedVariables false
/-- An owned row's slice, in letters. -/
theorem own_slice {w : World} {B : Nat} {e : TypeId} {s : Nat} {v : Value} {n : Nat} {xs : List Value} (h : w.ownsRow B e s v n xs) : ∃ a c, v = .slice a n c ∧ n ≤ c ∧ c ≤ maxLen ∧ ((a = none ∧ n = 0 ∧ c = 0) ∨ ∃ g, a = some ⟨g, 0, none⟩ ∧ B ≤ g) := by
  rcases h.2 with ⟨rfl, rfl⟩ | ⟨g, cap, cur, rfl, hb, _, hn, hm, _⟩
  · exact ⟨none, 0, rfl, Nat.le_refl _, Nat.zero_le _, .inl ⟨rfl, rfl, rfl⟩⟩
  · exact ⟨_, cap, rfl, hn, hm, .inr ⟨g, rfl, hb⟩⟩
end Go.Proofs.Ytbnppmkdhnpdfaa

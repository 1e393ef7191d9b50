/-
  An entry's text, read: plain; and there and back.
-/
import Derived.Test.YtnjbglnkhgholabDoorTPrint
namespace Go.Proofs.YtnjbglnkhgholabDoor
open Go.RowKit
set_option linter.unusedVariables false

/-- A text parted at the first of these letters. -/
def cutF (c : UInt8) : List UInt8 → Option (List UInt8 × List UInt8)
  | [] => none
  | x :: r => if x = c then some ([], r) else match cutF c r with
    | some (a, b) => some (x :: a, b)
    | none => none

theorem cutF_some {c : UInt8} : ∀ {l a b : List UInt8}, cutF c l = some (a, b) → l = a ++ c :: b ∧ c ∉ a
  | [], a, b, h => by simp [cutF] at h
  | x :: r, a, b, h => by
    unfold cutF at h
    split at h
    · rename_i hx
      simp only [Option.some.injEq, Prod.mk.injEq] at h
      obtain ⟨rfl, rfl⟩ := h
      simp [hx]
    · rename_i hx
      split at h
      · rename_i a' b' hr
        simp only [Option.some.injEq, Prod.mk.injEq] at h
        obtain ⟨rfl, rfl⟩ := h
        obtain ⟨h1, h2⟩ := cutF_some hr
        exact ⟨by rw [h1]; rfl, by simp [h2]; exact fun e => hx e.symm⟩
      · simp at h
theorem cutF_none {c : UInt8} : ∀ {l : List UInt8}, cutF c l = none → c ∉ l
  | [], _ => by simp
  | x :: r, h => by
    unfold cutF at h
    split at h
    · simp at h
    · rename_i hx
      split at h
      · simp at h
      · rename_i hr
        have := cutF_none hr
        simp [this]
        exact fun e => hx e.symm
theorem cutF_of {c : UInt8} : ∀ {a : List UInt8} (b : List UInt8), c ∉ a → cutF c (a ++ c :: b) = some (a, b)
  | [], b, _ => by simp [cutF]
  | x :: a, b, h => by
    simp at h
    show cutF c (x :: (a ++ c :: b)) = _
    unfold cutF
    rw [if_neg (fun e => h.1 e.symm), cutF_of b h.2]

/-- A number's text; the greatest one for a greater one. -/
def numF (l : List UInt8) : Option Int :=
  if (parseP l 9223372036854775807).2 = 12 then some 9223372036854775807 else if (parseP l 9223372036854775807).2 = 0 then some (parseP l 9223372036854775807).1 else none

/-- Bytes in hexadecimal digits, behind a mark. -/
def keyF (m : UInt8) : List UInt8 → Option (List UInt8)
  | [] => none
  | x :: t => if x = m then Hx.unhex t else none

def verF (l : List UInt8) : Option (Int × Int) :=
  match cutF 46 l with
  | none => none
  | some (a, b) => match numF a with
    | none => none
    | some x => match numF b with
      | none => none
      | some y => some (x, y)

def valF (l : List UInt8) : Option (List UInt8 × Bool) :=
  if l = [120] then some ([], true) else match keyF 61 l with
    | none => none
    | some v => some (v, false)

def noEn : En := ⟨⟨#[]⟩, 0, 0, ⟨#[]⟩, false⟩

/-- The three words, read. -/
def wordsF (key ver val : List UInt8) : Option En :=
  match keyF 107 key with
  | none => none
  | some k => match verF ver with
    | none => none
    | some (c, n) => match valF val with
      | none => none
      | some (v, d) => some ⟨⟨k.toArray⟩, c, n, ⟨v.toArray⟩, d⟩

def parseF (l : List UInt8) : En × Int :=
  match cutF 32 l with
  | none => (noEn, 23)
  | some (key, rest) => match cutF 32 rest with
    | none => (noEn, 23)
    | some (ver, val) => match wordsF key ver val with
      | none => (noEn, 23)
      | some e => if e.chk = 0 then (e, 0) else (noEn, e.chk)

theorem parseF_eq {l key rest ver val : List UInt8} (h1 : cutF 32 l = some (key, rest)) (h2 : cutF 32 rest = some (ver, val)) : parseF l = match wordsF key ver val with
      | none => (noEn, 23)
      | some e => if e.chk = 0 then (e, 0) else (noEn, e.chk) := by
  unfold parseF; rw [h1]; simp only; rw [h2]

theorem hexd_range : ∀ k : Fin 16, (48 ≤ (Hx.digs.getD k.val 0).toNat ∧ (Hx.digs.getD k.val 0).toNat ≤ 57) ∨ (97 ≤ (Hx.digs.getD k.val 0).toNat ∧ (Hx.digs.getD k.val 0).toNat ≤ 102) := by decide
theorem hex_mem : ∀ (l : List UInt8) (c : UInt8), c ∈ Hx.hex l → (48 ≤ c.toNat ∧ c.toNat ≤ 57) ∨ (97 ≤ c.toNat ∧ c.toNat ≤ 102)
  | [], c, h => by simp [Hx.hex] at h
  | x :: r, c, h => by
    have e : Hx.hex (x :: r) = Hx.hex [x] ++ Hx.hex r := Hx.hex_append [x] r
    rw [e, List.mem_append] at h
    rcases h with h | h
    · have e2 := Hx.hex_snoc [] x
      rw [List.nil_append] at e2
      rw [e2] at h
      have hlt := x.toNat_lt
      have h16 : x.toNat / 16 < 16 := by omega
      have hm16 : x.toNat % 16 < 16 := by omega
      simp only [Hx.hex, List.nil_append, List.mem_cons, List.not_mem_nil, or_false] at h
      rcases h with rfl | rfl
      · exact hexd_range ⟨_, h16⟩
      · exact hexd_range ⟨_, hm16⟩
    · exact hex_mem r c h
theorem hex_no32 (l : List UInt8) : (32 : UInt8) ∉ Hx.hex l := fun h => by have := hex_mem l 32 h; simp at this
theorem dec_no {u : Nat} {c : UInt8} (h : c ∈ Lib.decDigits u) : 48 ≤ c.toNat ∧ c.toNat ≤ 57 := dec_dig u c h

theorem unhex_no32 {t r : List UInt8} (h : Hx.unhex t = some r) : (32 : UInt8) ∉ t := by
  rw [← Hx.hex_unhex t.length t r (Nat.le_refl _) h]; exact hex_no32 r

theorem numF_dec {u : Nat} (h : u < 9223372036854775808) : numF (Lib.decDigits u) = some (u : Int) := by
  unfold numF
  rw [dec_parse u h]
  simp

theorem parse_print (e : En) (h : e.chk = 0) (hp : e.k.size ≤ 16 ∧ 1 ≤ e.c ∧ e.c ≤ 1099511627776 ∧ 0 ≤ e.n ∧ e.n ≤ 7) (hd : e.d = true → e.v = ⟨#[]⟩) : parseF (printL e) = (e, 0) := by
  obtain ⟨k, c, n, v, d⟩ := e
  simp only at hp hd
  obtain ⟨hk, hc1, hc2, hn1, hn2⟩ := hp
  have h32a : (32 : UInt8) ∉ (107 :: Hx.hex k.data.toList) := by simp [hex_no32]
  have h32b : (32 : UInt8) ∉ (Lib.decDigits (upN c) ++ 46 :: Lib.decDigits (upN n)) := by
    intro hm
    simp only [List.mem_append, List.mem_cons] at hm
    rcases hm with hm | hm | hm
    · have := dec_no hm; simp at this
    · simp at hm
    · have := dec_no hm; simp at this
  have h46 : (46 : UInt8) ∉ Lib.decDigits (upN c) := fun hm => by have := dec_no hm; simp at this
  obtain ⟨X, hX⟩ : ∃ X, X = (bif d then [120] else [61] ++ Hx.hex v.data.toList : List UInt8) := ⟨_, rfl⟩
  have hL : printL ⟨k, c, n, v, d⟩ = (107 :: Hx.hex k.data.toList) ++ 32 :: ((Lib.decDigits (upN c) ++ 46 :: Lib.decDigits (upN n)) ++ 32 :: X) := by
    rw [hX]; simp [printL, List.append_assoc]
  have hcu : ((upN c : Nat) : Int) = c := by rw [upN_eq]; omega
  have hnu : ((upN n : Nat) : Int) = n := by rw [upN_eq]; omega
  have ek : (⟨k.data.toList.toArray⟩ : ByteArray) = k := by cases k; simp
  have ev : (⟨v.data.toList.toArray⟩ : ByteArray) = v := by cases v; simp
  have hkey : keyF 107 (107 :: Hx.hex k.data.toList) = some k.data.toList := by simp [keyF, Hx.unhex_hex]
  have hver : verF (Lib.decDigits (upN c) ++ 46 :: Lib.decDigits (upN n)) = some (c, n) := by
    unfold verF
    rw [cutF_of _ h46]
    simp only
    rw [numF_dec (by omega), numF_dec (by omega), hcu, hnu]
  have hw : wordsF (107 :: Hx.hex k.data.toList) (Lib.decDigits (upN c) ++ 46 :: Lib.decDigits (upN n)) X = some ⟨k, c, n, v, d⟩ := by
    unfold wordsF
    rw [hkey, hver]
    simp only
    cases d
    · have hval : valF X = some (v.data.toList, false) := by
        rw [hX]
        simp only [valF, cond]
        rw [if_neg (by simp)]
        simp [keyF, Hx.unhex_hex]
      rw [hval]
    · have hval : valF X = some ([], true) := by rw [hX]; simp [valF]
      rw [hval]
      simp only [ek]
      rw [hd rfl]
  rw [hL, parseF_eq (cutF_of _ h32a) (cutF_of _ h32b), hw]
  simp only
  rw [if_pos h]

theorem valD_pos : ∀ {l : List UInt8}, allDig l → l ≠ [] → l.head? ≠ some 48 → 1 ≤ valD 0 l := by
  intro l hd hne hh
  obtain ⟨c, r, rfl⟩ : ∃ c r, l = c :: r := by cases l with | nil => exact absurd rfl hne | cons c r => exact ⟨c, r, rfl⟩
  have hc := hd c (by simp)
  have hc48 : c.toNat ≠ 48 := fun e => hh (by simp; apply UInt8.toNat_inj.1; simpa using e)
  have h1 : valD 0 (c :: r) = valD (0 * 10 + (c.toNat - 48)) r := rfl
  rw [h1]
  have := valD_le r (0 * 10 + (c.toNat - 48))
  have := hc.1
  omega

/-- A number's one text. -/
theorem dec_of_num : ∀ (n : Nat) (l : List UInt8), l.length ≤ n → isNum l → Lib.decDigits (valD 0 l) = l := by
  intro n
  induction n with
  | zero =>
    intro l hl h
    have : l = [] := List.length_eq_zero_iff.1 (by omega)
    subst this
    exact absurd h not_num_nil
  | succ n ih =>
    intro l hl h
    have hne : l ≠ [] := fun e => by rw [e] at h; exact not_num_nil h
    obtain ⟨l', c, rfl⟩ : ∃ l' c, l = l' ++ [c] := ⟨l.dropLast, l.getLast hne, (List.dropLast_concat_getLast hne).symm⟩
    have hcd : isDig c := h.1 c (by simp)
    have hcc : UInt8.ofNat (48 + (c.toNat - 48)) = c := by
      have := hcd.1
      rw [show 48 + (c.toNat - 48) = c.toNat from by omega]
      exact UInt8.ofNat_toNat
    by_cases h0 : l' = []
    · subst h0
      rw [List.nil_append, val_one, Lib.decDigits_one (by have := hcd.1; have := hcd.2; omega), hcc]
    · have hd' : allDig l' := fun x hx => h.1 x (by simp [hx])
      have hh' : l'.head? ≠ some 48 := by
        rcases h.2 with e | ⟨_, e⟩
        · have : (l' ++ [c]).length = 1 := by rw [e]; rfl
          simp at this
          exact absurd this h0
        · cases l' with
          | nil => exact absurd rfl h0
          | cons y ys => simpa using e
      have hpos := valD_pos hd' h0 hh'
      have hnum : isNum l' := ⟨hd', .inr ⟨h0, hh'⟩⟩
      have hl' : l'.length ≤ n := by simp at hl; omega
      rw [valD_snoc]
      have hc9 := hcd.2
      have hc0 := hcd.1
      rw [dec_big (by omega)]
      rw [show (valD 0 l' * 10 + (c.toNat - 48)) / 10 = valD 0 l' from by omega, show (valD 0 l' * 10 + (c.toNat - 48)) % 10 = c.toNat - 48 from by omega, ih l' hl' hnum, hcc]

theorem numF_inv {l : List UInt8} {x : Int} (h : numF l = some x) (hx : x ≤ 1099511627776) : Lib.decDigits (upN x) = l ∧ 0 ≤ x := by
  unfold numF at h
  split at h
  · simp at h; omega
  · split at h
    · rename_i h1 h2
      simp only [Option.some.injEq] at h
      by_cases hn : isNum l
      · have hp : parseP l 9223372036854775807 = (if 9223372036854775808 ≤ valD 0 l ∨ (9223372036854775807 : Int) < (valD 0 l : Int) then (0, 12) else ((valD 0 l : Int), 0)) := by unfold parseP; rw [if_pos hn]
        rw [hp] at h h1
        split at h
        · rename_i hb; rw [if_pos hb] at h1; simp at h1
        · simp only at h
          subst h
          refine ⟨?_, by omega⟩
          rw [show upN (valD 0 l : Int) = valD 0 l from by unfold upN; omega]
          exact dec_of_num _ l (Nat.le_refl _) hn
      · have hp : parseP l 9223372036854775807 = (0, 23) := parse_bad hn
        rw [hp] at h2
        simp at h2
    · simp at h

theorem keyF_inv {m : UInt8} {l r : List UInt8} (h : keyF m l = some r) : l = m :: Hx.hex r := by
  cases l with
  | nil => simp [keyF] at h
  | cons x t =>
    simp only [keyF] at h
    split at h
    · rename_i hx
      rw [hx, Hx.hex_unhex t.length t r (Nat.le_refl _) h]
    · simp at h

theorem words_inv {key ver val : List UInt8} {e : En} (h : wordsF key ver val = some e) (hc : e.c ≤ 1099511627776) (hn : e.n ≤ 1099511627776) : printL e = key ++ 32 :: (ver ++ 32 :: val) := by
  unfold wordsF at h
  split at h
  · simp at h
  · rename_i k hk
    split at h
    · simp at h
    · rename_i c n hv
      split at h
      · simp at h
      · rename_i v d hval
        simp only [Option.some.injEq] at h
        subst h
        simp only at hc hn
        have hkey := keyF_inv hk
        unfold verF at hv
        split at hv
        · simp at hv
        · rename_i a b hcut
          split at hv
          · simp at hv
          · rename_i x hx
            split at hv
            · simp at hv
            · rename_i y hy
              simp only [Option.some.injEq, Prod.mk.injEq] at hv
              obtain ⟨rfl, rfl⟩ := hv
              have hab := (cutF_some hcut).1
              have ha := (numF_inv hx hc).1
              have hb := (numF_inv hy hn).1
              unfold valF at hval
              split at hval
              · rename_i hl
                simp only [Option.some.injEq, Prod.mk.injEq] at hval
                obtain ⟨rfl, rfl⟩ := hval
                rw [hkey, hab, hl]
                simp [printL, ha, hb, List.append_assoc]
              · split at hval
                · simp at hval
                · rename_i v' hv'
                  simp only [Option.some.injEq, Prod.mk.injEq] at hval
                  obtain ⟨rfl, rfl⟩ := hval
                  rw [hkey, hab, keyF_inv hv']
                  simp [printL, ha, hb, List.append_assoc]

theorem En.ok_ver {k : ByteArray} {c n : Int} {v : ByteArray} {d : Bool} (h : En.chk ⟨k, c, n, v, d⟩ = 0) : k.size ≤ 16 ∧ 1 ≤ c ∧ c ≤ 1099511627776 ∧ 0 ≤ n ∧ n ≤ 7 ∧ v.size ≤ 32 := by
  unfold En.chk at h
  simp only at h
  split at h
  · omega
  · split at h
    · omega
    · rename_i h1 h2
      split at h
      · omega
      · rename_i h3
        have hc : Vs.chk c n = 0 := Classical.byContradiction h2
        unfold Vs.chk at hc
        split at hc
        · omega
        · rename_i h4
          omega

/-- What is read without an error is written so. -/
theorem parse_inv {l : List UInt8} {e : En} (h : parseF l = (e, 0)) : e.chk = 0 ∧ printL e = l := by
  unfold parseF at h
  split at h
  · simp at h
  · rename_i key rest h1
    split at h
    · simp at h
    · rename_i ver val h2
      split at h
      · simp at h
      · rename_i e' hw
        split at h
        · rename_i hc
          simp only [Prod.mk.injEq, and_true] at h
          subst h
          have hp : e'.c ≤ 1099511627776 ∧ e'.n ≤ 1099511627776 := by
            obtain ⟨k, c, n, v, d⟩ := e'
            have := En.ok_ver hc
            simp only
            omega
          refine ⟨hc, ?_⟩
          rw [words_inv hw hp.1 hp.2, (cutF_some h1).1, (cutF_some h2).1]
        · rename_i hc
          simp only [Prod.mk.injEq] at h
          exact absurd h.2 hc

end Go.Proofs.YtnjbglnkhgholabDoor
